/- Questions in memory ('Asks'), an encoder, its row and the list under way ('Ec'), the contract of the law's encoded; of no statement by themselves. -/
import Derived.Test.YtejopgopcocapaaLawD
import Derived.Test.YtejopgopcocapaaEnG
import Derived.Test.YtejopgopcocapaaArgs
namespace Go.Proofs.Ytejopgopcocapaa
open Go.RowKit
set_option linter.unusedVariables false

def Q.cells (q : Q) : List Value := [.bool q.d, .int .i64 q.i, .int .i64 q.n, .int .u32 (q.v : Int)]
def Asks (w : World) (a : Option Addr) (l : List Q) : Prop := ∀ (k : Nat) (q : Q), l[k]? = some q → ∃ b off, a = some ⟨b, off, none⟩ ∧ w.cell? ⟨b, off + k * 4, none⟩ = some (.bool q.d) ∧ w.cell? ⟨b, off + k * 4 + 1, none⟩ = some (.int .i64 q.i) ∧ w.cell? ⟨b, off + k * 4 + 2, none⟩ = some (.int .i64 q.n) ∧ w.cell? ⟨b, off + k * 4 + 3, none⟩ = some (.int .u32 (q.v : Int)) ∧ q.v ≤ 4294967295
theorem Asks.new {w w' : World} {a : Option Addr} {l : List Q} (h : Asks w a l) (hc : Chg (fun _ => False) w w') : Asks w' a l := fun k q hq => by
  obtain ⟨b, off, e, h0, h1, h2, h3, hX⟩ := h k q hq
  exact ⟨b, off, e, cell_chg h0 hc, cell_chg h1 hc, cell_chg h2 hc, cell_chg h3 hc, hX⟩
theorem asks_at : ∀ (l : List Q) (k : Nat) (q : Q) (j : Nat), l[k]? = some q → j < 4 → (l.flatMap Q.cells)[k * 4 + j]? = q.cells[j]?
  | [], k, q, j, h, _ => by simp at h
  | y :: ys, 0, q, j, h, hj => by
    rw [List.flatMap_cons, List.getElem?_append_left (by simp [Q.cells]; omega)]
    simp at h
    subst h
    simp
  | y :: ys, k + 1, q, j, h, hj => by
    rw [List.flatMap_cons, List.getElem?_append_right (by simp [Q.cells]; omega)]
    have e : (k + 1) * 4 + j - y.cells.length = k * 4 + j := by simp [Q.cells]; omega
    rw [e]
    exact asks_at ys k q j (by simpa using h) hj
/-- A list of one's own can be asked. -/
theorem asks_own {w : World} {B : Nat} {ad : Option Addr} {n c : Nat} {l : List Q} (h : w.ownsRow B 40 4 (.slice ad n c) n (l.flatMap Q.cells)) (hs : ∀ q ∈ l, q.v ≤ 4294967295) : Asks w ad l := fun k q hq => by
  rcases h.2 with ⟨e0, e1⟩ | ⟨g, cap, cur, e0, _, hb, _, _, _, ht⟩
  · have h1 := h.1
    have h2 := (List.getElem?_eq_some_iff.1 hq).1
    have h3 : (l.flatMap Q.cells).length = l.length * 4 := by
      clear h e0 e1 hs hq h1 h2
      induction l with
      | nil => rfl
      | cons y ys ih => rw [List.flatMap_cons, List.length_append, ih]; simp [Q.cells]; omega
    omega
  · cases e0
    have key : ∀ j v, j < 4 → q.cells[j]? = some v → w.cell? ⟨g, 0 + k * 4 + j, none⟩ = some v := fun j v hj hv => by
      have h1 := asks_at l k q j hq hj
      rw [← ht, hv] at h1
      have h2 : cur.toList[k * 4 + j]? = some v := by
        rw [List.getElem?_take] at h1
        split at h1
        · exact h1
        · cases h1
      rw [Nat.zero_add]
      simp only [World.cell?, hb]
      simpa using h2
    exact ⟨g, 0, rfl, key 0 _ (by omega) rfl, key 1 _ (by omega) rfl, key 2 _ (by omega) rfl, key 3 _ (by omega) rfl, hs q (List.mem_of_getElem? hq)⟩

theorem own_keep4 {w w' : World} {S : Nat → Prop} {B : Nat} {e : TypeId} {size : Nat} {v : Value} {n : Nat} {xs : List Value} (h : w.ownsRow B e size v n xs) (hc : Chg S w w') (hS : ∀ g, v.ownBlock = some g → ¬ S g) : w'.ownsRow B e size v n xs := by
  refine ⟨h.1, ?_⟩
  rcases h.2 with hn | ⟨g, cap, cur, rfl, hb, hgg, rest⟩
  · exact .inl hn
  · exact .inr ⟨g, cap, cur, rfl, hb, (hc.block g (lt_of_blk hgg) (hS g rfl)).trans hgg, rest⟩
structure Ec (w0 w : World) (a s : Nat) (v u lv : Value) (e : Rc.E) (xs : List Int) (m : List Q) : Prop where
  chg : Chg (fun _ => False) w0 w
  en : Enc w w0.heap.size a v e
  st : St w w0.heap.size s u xs
  inn : In31 xs
  ok : Rc.Ok e
  row : w.ownsRow w0.heap.size 40 4 lv m.length (m.flatMap Q.cells)
  small : ∀ q ∈ m, q.v ≤ 4294967295
theorem Ec.new {w0 w w' : World} {a s : Nat} {v u lv : Value} {e : Rc.E} {xs : List Int} {m : List Q} (h : Ec w0 w a s v u lv e xs m) (hc : Chg (fun _ => False) w w') : Ec w0 w' a s v u lv e xs m :=
  ⟨chg_then h.chg hc, h.en.new hc, h.st.new hc, h.inn, h.ok, own_keep4 h.row hc (fun _ _ f => f), h.small⟩
/-- A block of another kind is none of an encoder's. -/
theorem Enc.miss {w : World} {B a g : Nat} {v : Value} {e : Rc.E} (h : Enc w B a v e) {cs : Array Value} {t : TypeId} (hb : w.heap[g]? = some (.cells cs t (0, 0))) (h1 : t ≠ 96) (h2 : t ≠ 5) : ¬ Foot a v g := fun f => by
  obtain ⟨l, hl, _⟩ := h
  rcases f with f | f
  · rw [f] at hb
    exact ty_ne hb hl.blk h1
  · obtain ⟨cur, hcur⟩ := owns_blk hl.own f
    exact ty_ne hb hcur h2
theorem Ec.dir {w0 w w' : World} {a s : Nat} {v u lv v' : Value} {e e' : Rc.E} {xs : List Int} {m : List Q} (h : Ec w0 w a s v u lv e xs m) (hE : Enc w' w0.heap.size a v' e') (hO : Rc.Ok e') (hc : Chg (Foot a v) w w') : Ec w0 w' a s v' u lv e' xs m := by
  refine ⟨h.chg.trans hc (fun z f => .inr (h.en.foot_lt f).1), hE, h.st.keep hc (h.en.miss h.st.blk (by decide) (by decide)) (fun g eg => ?_), h.inn, hO, own_keep4 h.row hc (fun g eg => ?_), h.small⟩
  · obtain ⟨cur, hcur⟩ := owns_blk h.st.own eg
    exact h.en.miss hcur (by decide) (by decide)
  · obtain ⟨cur, hcur⟩ := owns_blk h.row eg
    exact h.en.miss hcur (by decide) (by decide)
theorem Ec.bit {w0 w w' : World} {a s : Nat} {v u lv v' : Value} {e e' : Rc.E} {xs xs' : List Int} {m : List Q} (h : Ec w0 w a s v u lv e xs m) (hE : Enc w' w0.heap.size a v' e') (hO : Rc.Ok e') (hS : St w' w0.heap.size s u xs') (hI : In31 xs') (hc : Chg (fun z => Foot a v z ∨ u.ownBlock = some z) w w') : Ec w0 w' a s v' u lv e' xs' m := by
  refine ⟨h.chg.trans hc (fun z f => .inr ?_), hE, hS, hI, hO, own_keep4 h.row hc (fun g eg => ?_), h.small⟩
  · rcases f with f | f
    · exact (h.en.foot_lt f).1
    · exact (h.st.own.lt z f).1
  · obtain ⟨cur, hcur⟩ := owns_blk h.row eg
    intro f
    rcases f with f | f
    · exact h.en.miss hcur (by decide) (by decide) f
    · obtain ⟨cur2, hcur2⟩ := owns_blk h.st.own f
      exact ty_ne hcur hcur2 (by decide)
/-- One question more; the list lies where it lay or in new memory. -/
theorem Ec.push {w0 w w' : World} {a s : Nat} {v u lv lv' : Value} {e : Rc.E} {xs : List Int} {m : List Q} {q : Q} (h : Ec w0 w a s v u lv e xs m) (ho : w'.ownsRow w0.heap.size 40 4 lv' (m.length + 1) (m.flatMap Q.cells ++ q.cells)) (hg : w.grownBy w' lv.ownBlock) (hq : q.v ≤ 4294967295) : Ec w0 w' a s v u lv' e xs (m ++ [q]) := by
  have c2 : Chg (fun z => lv.ownBlock = some z) w w' := (Chg.refl _ w).grown hg (fun k e => .inl e)
  have ms : ∀ g cs t, w.heap[g]? = some (.cells cs t (0, 0)) → t ≠ 40 → lv.ownBlock ≠ some g := fun g cs t hb ht eg => by
    obtain ⟨cur, hcur⟩ := owns_blk h.row eg
    exact ty_ne hb hcur ht
  refine ⟨h.chg.grown hg (fun k e => .inr (h.row.lt k e).1), h.en.keep c2 (fun z eg f => ?_), h.st.keep c2 (ms _ _ _ h.st.blk (by decide)) (fun g eg => ?_), h.inn, h.ok, ?_, fun r hr => ?_⟩
  · obtain ⟨cur, hcur⟩ := owns_blk h.row eg
    exact h.en.miss hcur (by decide) (by decide) f
  · obtain ⟨cur, hcur⟩ := owns_blk h.st.own eg
    exact ms _ _ _ hcur (by decide)
  · rw [List.length_append, List.flatMap_append]
    simpa using ho
  · rcases List.mem_append.1 hr with hr | hr
    · exact h.small r hr
    · rw [List.mem_singleton.1 hr]
      exact hq
theorem infoA : (Try.prog.info? 40).map (fun i => (i.zero, i.size, i.bytes)) = some (some (.agg #[.bool false, .int .i64 0, .int .i64 0, .int .u32 0]), 4, 32) := by kernel_rfl
theorem from_a (w : World) (x0 x1 x2 x3 : Value) (t : TypeId) : From (w.alloc (.cells #[x0, x1, x2, x3] t)) (some ⟨w.heap.size, 0, none⟩) 1 1 4 [x0, x1, x2, x3] := by
  refine ⟨rfl, .inr ⟨_, rfl, fun j u hu => ?_⟩⟩
  have hb : (w.alloc (.cells #[x0, x1, x2, x3] t)).heap[w.heap.size]? = some (.cells #[x0, x1, x2, x3] t (0, 0)) := heap_alloc_last _ _
  obtain ⟨k0, k1, k2, k3, _⟩ := rcells4 hb
  match j, hu with
  | 0, hu => simp at hu; subst hu; rw [addk]; exact k0
  | 1, hu => simp at hu; subst hu; rw [addk]; exact k1
  | 2, hu => simp at hu; subst hu; rw [addk]; exact k2
  | 3, hu => simp at hu; subst hu; rw [addk]; exact k3
theorem form4 {w : World} {B : Nat} {lv : Value} {n : Nat} {xs : List Value} (h : w.ownsRow B 40 4 lv n xs) : ∃ a c, lv = .slice a n c := by
  rcases h.2 with ⟨rfl, rfl⟩ | ⟨g, cap, cur, rfl, _⟩
  · exact ⟨none, 0, rfl⟩
  · exact ⟨_, cap, rfl⟩
/-- Those that may be asked. -/
def may (n : Nat) (l : List Q) : List Q := l.filter (fun q => decide (q.ok n))
theorem may_step {n k : Nat} {l : List Q} {q : Q} (h : l[k]? = some q) : may n (l.take (k + 1)) = may n (l.take k) ++ if q.ok n then [q] else [] := by
  unfold may
  rw [List.take_add_one, h, List.filter_append]
  congr 1
  by_cases hq : q.ok n
  · simp [hq]
  · simp [hq]
theorem may_len (n : Nat) (l : List Q) (k : Nat) : (may n (l.take k)).length ≤ k := Nat.le_trans (List.length_filter_le _ _) (by rw [List.length_take]; omega)
theorem encL_step {k : Nat} {l : List Q} {q : Q} (h : l[k]? = some q) (e : Rc.E) (xs : List Int) : encL (l.drop k) e xs = if q.ok xs.length then encL (l.drop (k + 1)) (encE q e xs) (encX q xs) else encL (l.drop (k + 1)) e xs := by
  have h1 : k < l.length := (List.getElem?_eq_some_iff.1 h).1
  have h2 : l[k] = q := (List.getElem?_eq_some_iff.1 h).2
  rw [List.drop_eq_getElem_cons h1, h2, encL]
theorem encE_k {q : Q} {e : Rc.E} {xs : List Int} (hq : q.ok xs.length) : (encE q e xs).k ≤ e.k + 32 := by
  unfold encE
  split
  · rename_i hd
    unfold Q.ok at hq
    rw [if_pos hd] at hq
    have := direct_k_le q.v q.n.toNat e
    omega
  · have := cut_k e (e.R / 2048 * (pAt xs q.i).toNat) (decide (((q.v % 2 : Nat) : Int) ≠ 0))
    unfold coded
    omega
/-- Where the walk along the questions stands. -/
structure At8 (w0 : World) (l : List Q) (n k : Nat) (wr : World) (a s : Nat) (v u lv : Value) (e : Rc.E) (xs : List Int) : Prop where
  ec : Ec w0 wr a s v u lv e xs (may n (l.take k))
  len : xs.length = n
  enc : encL (l.drop k) e xs = encL l Rc.start (List.replicate n 1024)
  le : e.k ≤ 32 * k
theorem At8.skip {w0 wr w' : World} {l : List Q} {n k a s : Nat} {v u lv : Value} {e : Rc.E} {xs : List Int} {q : Q} (h : At8 w0 l n k wr a s v u lv e xs) (hc : Chg (fun _ => False) wr w') (hq : l[k]? = some q) (hn : ¬ q.ok n) : At8 w0 l n (k + 1) w' a s v u lv e xs := by
  refine ⟨?_, h.len, ?_, by have := h.le; omega⟩
  · rw [may_step hq, if_neg hn, List.append_nil]
    exact h.ec.new hc
  · rw [← h.enc, encL_step hq, if_neg (by rw [h.len]; exact hn)]
theorem enc_base8 {w : World} {B B' a : Nat} {v : Value} {e : Rc.E} (h : Enc w B a v e) (hB : B' ≤ B) : Enc w B' a v e := by
  obtain ⟨l, hl, hI⟩ := h
  exact ⟨l, ⟨Nat.le_trans hB hl.hr, hl.blk, owns_base hl.own hB⟩, hI⟩
theorem At8.step {w0 wr w' : World} {l : List Q} {n k a s : Nat} {v v' u lv lv' : Value} {e : Rc.E} {xs : List Int} {q : Q} (h : At8 w0 l n k wr a s v u lv e xs) (hq : l[k]? = some q) (hn : q.ok n) (hE : Ec w0 w' a s v' u lv' (encE q e xs) (encX q xs) (may n (l.take k) ++ [q])) : At8 w0 l n (k + 1) w' a s v' u lv' (encE q e xs) (encX q xs) := by
  refine ⟨?_, by rw [encX_len]; exact h.len, ?_, ?_⟩
  · rw [may_step hq, if_pos hn]
    exact hE
  · rw [← h.enc, encL_step hq, if_pos (by rw [h.len]; exact hn)]
  · have h1 := encE_k (q := q) (e := e) (xs := xs) (by rw [h.len]; exact hn)
    have h2 := h.le
    omega
set_option maxHeartbeats 8000000 in
set_option maxRecDepth 100000 in
theorem encoded_any (n : Nat) (av : Option Addr) (L cv : Nat) (l : List Q) (w0 : World) (hA : Asks w0 av l) (hL : l.length = L) (hn : n ≤ 64) (hl : L ≤ 4398046510976) : Calls Try.prog 14 #[.int .i64 (n : Int), .slice av L cv] w0 fun x w' => ∃ bv lv a s v u, x = .returned (.tuple #[bv, lv, .pointer (some ⟨s, 0, none⟩)]) ∧ w'.ownsRow w0.heap.size 5 1 bv ((encL l Rc.start (List.replicate n 1024)).1.k + 5) (ins .u8 (nums (Rc.by_ (encL l Rc.start (List.replicate n 1024)).1))) ∧ At8 w0 l n L w' a s v u lv (encL l Rc.start (List.replicate n 1024)).1 (encL l Rc.start (List.replicate n 1024)).2 := by
  have HA0 : Hid (Asks w0 av l) := hA
  have HLL : Hid (l.length = L) := hL
  clear hA hL
  go_enter Try.func14, Try.ntmps14
  go_wp2_with fail
  refine (new_in n _ (by omega)).mono ?_
  rintro x w1 ⟨s, u, rfl, hs, hS1, c1⟩
  have HS1 : Hid (St w1 w0.heap.size s u (List.replicate n 1024)) := hS1
  have HC1 : Hid (Chg (fun _ => False) w0 w1) := c1
  clear hS1 c1 hs
  go_wp2_with fail
  refine (rcnew_any _).mono ?_
  rintro x w2 ⟨a, rfl, ha, hE2, c2⟩
  have HE2 : Hid (Enc w2 w0.heap.size a (.slice none 0 0) Rc.start) := enc_base8 ⟨_, hE2, Rc.begin_is⟩ HC1.out.size
  have HA2 : Hid (At8 w0 l n 0 w2 a s (.slice none 0 0) u (.slice none 0 0) Rc.start (List.replicate n 1024)) := ⟨⟨chg_then HC1.out c2, HE2.out, HS1.out.new c2, In31.half n, Rc.start_ok, World.ownsRow_nil _ _ _ _, fun q hq => (List.not_mem_nil hq).elim⟩, by simp, rfl, Nat.le_refl _⟩
  clear hE2 c2 HE2 HC1 HS1 ha
  go_wp2_with fail
  refine (num_any 0 _).mono ?_
  rintro x w3 ⟨rfl, rfl⟩
  go_wp2_with fail
  go_loopw [10, 32] (fun lv iv wr => ∃ (k : Nat) (v : Value) (e : Rc.E) (xs : List Int), k ≤ L ∧ iv = .int .i64 (k : Int) ∧ Hid (At8 w0 l n k wr a s v u lv e xs)) (fun _ iv _ => L - (intOf iv).toNat)
  case atStart => exact ⟨0, _, _, _, Nat.zero_le _, rfl, HA2.out⟩
  case round =>
    clear HA2
    obtain ⟨k, v, e, xs, hk, rfl, HA⟩ := hrel
    by_cases hlt : k < L
    · obtain ⟨q, hq⟩ : ∃ q, l[k]? = some q := ⟨_, List.getElem?_eq_getElem (by rw [HLL.out]; exact hlt)⟩
      obtain ⟨b, off, ea, h0, h1, h2, h3, hX⟩ := (HA0.out.new HA.out.ec.chg) k q hq
      obtain ⟨dd, I, N, X⟩ := q
      subst ea
      obtain ⟨q, hqq⟩ : ∃ q : Q, q = ⟨dd, I, N, X⟩ := ⟨_, rfl⟩
      rw [← hqq] at hq
      have HL : Hid (l[k]? = some q) := hq
      have HQ : Hid (⟨dd, I, N, X⟩ = q) := hqq.symm
      have HX : Hid (X ≤ 4294967295) := hX
      obtain ⟨la, lc, hlv⟩ := form4 HA.out.ec.row
      obtain ⟨M, hM⟩ : ∃ M, (may n (l.take k)).length = M := ⟨_, rfl⟩
      have HM : Hid ((may n (l.take k)).length = M) := hM
      have hM2 : M ≤ k := by rw [← hM]; exact may_len n l k
      rw [hM] at hlv
      subst hlv
      have cB := chg_one wr (.cells #[.bool dd, .int .i64 I, .int .i64 N, .int .u32 (X : Int)] 40)
      have HE1 : Hid (Ec w0 (wr.alloc (.cells #[.bool dd, .int .i64 I, .int .i64 N, .int .u32 (X : Int)] 40)) a s v u (.slice la M lc) e xs (may n (l.take k))) := HA.out.ec.new cB
      have HC1 : Hid (Chg (fun _ => False) wr (wr.alloc (.cells #[.bool dd, .int .i64 I, .int .i64 N, .int .u32 (X : Int)] 40))) := cB
      have HBO1 : Hid ((wr.alloc (.cells #[.bool dd, .int .i64 I, .int .i64 N, .int .u32 (X : Int)] 40)).heap[wr.heap.size]? = some (.cells #[.bool dd, .int .i64 I, .int .i64 N, .int .u32 (X : Int)] 40 (0, 0))) := heap_alloc_last wr _
      have HOL : Hid (∀ z, (Value.slice la M lc).ownBlock = some z → z < wr.heap.size) := fun z ez => (HA.out.ec.row.lt z ez).2
      clear cB hX hM hq hqq
      go_upto_region 9 with fail
      clear h0 h1 h2 h3
      generalize wr.alloc (.cells #[.bool dd, .int .i64 I, .int .i64 N, .int .u32 (X : Int)] 40) = w1 at *
      generalize wr.heap.size = O at *
      obtain ⟨o0, o1, o2, o3, _⟩ := rcells4 HBO1.out
      cases dd with
      | true =>
        by_cases hN : 0 ≤ N ∧ N ≤ 32
        · have HOKQ : Hid (q.ok n) := by show q.ok n; rw [← HQ.out]; simpa [Q.ok] using hN
          obtain ⟨hN0, hN32⟩ := hN
          obtain ⟨i, rfl⟩ := Int.eq_ofNat_of_zero_le hN0
          have HEE : Hid (encE q e xs = direct X i e) := by show encE q e xs = _; rw [← HQ.out]; rfl
          have HEX : Hid (encX q xs = xs) := by show encX q xs = _; rw [← HQ.out]; rfl
          have HKK : Hid ((direct X i e).k + 1 ≤ 140737488355328) := by have h1 := direct_k_le X i e; have h2 := HA.out.le; show _ ≤ _; omega
          go_wp2_with fail
          refine (direct_in w0.heap.size a v e X i _ HE1.out.en HE1.out.ok HX.out (by omega) HKK.out HE1.out.chg.size).mono ?_
          rintro z w2 ⟨rfl, v2, hE2, c2, _⟩
          have HE2 : Hid (Ec w0 w2 a s v2 u (.slice la M lc) (encE q e xs) (encX q xs) (may n (l.take k))) := by show Ec _ _ _ _ _ _ _ _ _ _; rw [HEE.out, HEX.out]; exact HE1.out.dir hE2 (direct_ok X i HE1.out.ok) c2
          have HBO2 : Hid (w2.heap[O]? = some (.cells #[.bool true, .int .i64 I, .int .i64 (i : Int), .int .u32 (X : Int)] 40 (0, 0))) := blk_keep HBO1.out c2 (HE1.out.en.miss HBO1.out (by decide) (by decide))
          clear hE2 c2 HE1 HBO1 o0 o1 o2 o3
          go_wp2_with fail
          refine (num_any 0 _).mono ?_
          rintro z w3 ⟨rfl, rfl⟩
          go_upto_region 12 with fail
          obtain ⟨jA, hjA, hjz, hj4, hj32⟩ := info_parts infoA
          have c8 := chg_one w2 (.cells #[.bool true, .int .i64 I, .int .i64 (i : Int), .int .u32 (X : Int)] 40)
          have hown : (w2.alloc (.cells #[.bool true, .int .i64 I, .int .i64 (i : Int), .int .u32 (X : Int)] 40)).ownsRow w0.heap.size 40 4 (.slice la M lc) M ((may n (l.take k)).flatMap Q.cells) := by
            have := (HE2.out.new c8).row
            rw [HM.out] at this
            exact this
          have hsz := (HE2.out.new c8).chg.size
          have HE8 : Hid (Ec w0 (w2.alloc (.cells #[.bool true, .int .i64 I, .int .i64 (i : Int), .int .u32 (X : Int)] 40)) a s v2 u (.slice la M lc) (encE q e xs) (encX q xs) (may n (l.take k))) := HE2.out.new c8
          have hsrc := from_a w2 (.bool true) (.int .i64 I) (.int .i64 (i : Int)) (.int .u32 (X : Int)) 40
          have n0 := (rcells4 HBO2.out).1
          have n1 := (rcells4 HBO2.out).2.1
          have n2 := (rcells4 HBO2.out).2.2.1
          have n3 := (rcells4 HBO2.out).2.2.2.1
          clear c8
          go_wp2_with (at_builtin; refine wpList_append_moved rfl _ _ 23 rfl w0.heap.size 40 jA (.agg #[.bool false, .int .i64 0, .int .i64 0, .int .u32 0]) 4 32 Try.underlying23 hjA hjz hj4 hj32 rfl (by decide) _ M ((may n (l.take k)).flatMap Q.cells) rfl (some ⟨w2.heap.size, 0, none⟩) 1 1 rfl [.bool true, .int .i64 I, .int .i64 (i : Int), .int .u32 (X : Int)] hown hsrc (fun u hu => by simp at hu; rcases hu with rfl | rfl | rfl | rfl <;> rfl) (by unfold maxLen; omega) (by omega) hsz ?_)
          intro v9 w9 ho9 hg9 _
          have HG9 : Hid ((w2.alloc (.cells #[.bool true, .int .i64 I, .int .i64 (i : Int), .int .u32 (X : Int)] 40)).grownBy w9 (Value.slice la M lc).ownBlock) := hg9
          have HE9 : Hid (Ec w0 w9 a s v2 u v9 (encE q e xs) (encX q xs) (may n (l.take k) ++ [q])) := HE8.out.push (by rw [HM.out]; rw [← HQ.out] ; exact ho9) hg9 (by rw [← HQ.out]; exact HX.out)
          have HS9 : Hid (At8 w0 l n (k + 1) w9 a s v2 u v9 (encE q e xs) (encX q xs)) := HA.out.step HL.out HOKQ.out HE9.out
          have HB9 : Hid (w9.heap[O]? = some (.cells #[.bool true, .int .i64 I, .int .i64 (i : Int), .int .u32 (X : Int)] 40 (0, 0))) := by
            have c9 : Chg (fun z => (Value.slice la M lc).ownBlock = some z) (w2.alloc (.cells #[.bool true, .int .i64 I, .int .i64 (i : Int), .int .u32 (X : Int)] 40)) w9 := (Chg.refl _ _).grown HG9.out (fun k e => .inl e)
            have hb8 := blk_keep HBO2.out (chg_one w2 (.cells #[.bool true, .int .i64 I, .int .i64 (i : Int), .int .u32 (X : Int)] 40)) (fun f => f)
            exact blk_keep hb8 c9 (fun f => by have := HOL.out _ f; omega)
          obtain ⟨la9, lc9, hv9⟩ := form4 HE9.out.row
          have n0' := (rcells4 HB9.out).1
          have n1' := (rcells4 HB9.out).2.1
          clear ho9 hg9 hown hsrc n0 n1 n2 n3
          subst hv9
          go_wp2_with fail
          go_roundw
          case rel => exact ⟨k + 1, v2, encE q e xs, encX q xs, by omega, by go_num, HS9.out⟩
          case measure => simp [intOf]; omega
        · have HS : Hid (At8 w0 l n (k + 1) w1 a s v u (.slice la M lc) e xs) := HA.out.skip HC1.out HL.out (by rw [← HQ.out]; exact fun f => hN (by simpa [Q.ok] using f))
          by_cases hN0 : 0 ≤ N
          · have hd1 : decide (N ≤ 32) = false := by simp; omega
            go_wp2_with fail
            go_roundw
            case rel => exact ⟨k + 1, v, e, xs, by omega, by go_num, HS.out⟩
            case measure => simp [intOf]; omega
          · have hd1 : decide (0 ≤ N) = false := by simp; omega
            go_wp2_with fail
            go_roundw
            case rel => exact ⟨k + 1, v, e, xs, by omega, by go_num, HS.out⟩
            case measure => simp [intOf]; omega
      | false =>
        by_cases hI : 0 ≤ I ∧ I < (n : Int)
        · have HOKQ : Hid (q.ok n) := by show q.ok n; rw [← HQ.out]; simpa [Q.ok] using hI
          obtain ⟨hI0, hIn⟩ := hI
          obtain ⟨i, rfl⟩ := Int.eq_ofNat_of_zero_le hI0
          have HIX : Hid (i < xs.length) := by show i < _; rw [HA.out.len]; omega
          have HP : Hid (pAt xs (i : Int) = xs[i]'HIX.out) := by have h9 := HIX.out; show pAt _ _ = _; simp [pAt, List.getD, h9]
          have HEE : Hid (encE q e xs = coded e (xs[i]'HIX.out) ((X % 2 : Nat) : Int)) := by show encE q e xs = _; rw [← HQ.out, ← HP.out]; rfl
          have HEX : Hid (encX q xs = xs.set i (Prob.nx (xs[i]'HIX.out) ((X % 2 : Nat) : Int))) := by show encX q xs = _; rw [← HQ.out, ← HP.out]; rfl
          have HKK : Hid (e.k + 1 ≤ 140737488355328) := by have h2 := HA.out.le; show _ ≤ _; omega
          have hbx : bits .and .u32 (X : Int) 1 = ((X % 2 : Nat) : Int) := by have h1 := HX.out; have h2 := u32_and_nat X 1 (by omega) (by omega); rw [Nat.and_one_is_mod] at h2; exact h2
          obtain ⟨B2, hB2⟩ : ∃ B2, X % 2 = B2 := ⟨_, rfl⟩
          rw [hB2] at hbx HEE HEX
          have hB3 : (B2 : Int) < 2 := by omega
          clear hB2
          go_wp2_with fail
          refine (bit_in w0.heap.size w0.heap.size a s u v xs i (B2 : Int) e _ HE1.out.st HE1.out.inn HIX.out HE1.out.en HE1.out.ok HKK.out HE1.out.chg.size).mono ?_
          rintro z w2 ⟨rfl, v2, hE2, hS2, c2, _⟩
          have HE2 : Hid (Ec w0 w2 a s v2 u (.slice la M lc) (encE q e xs) (encX q xs) (may n (l.take k))) := by
            have hp := HE1.out.inn.at i HIX.out
            show Ec _ _ _ _ _ _ _ _ _ _
            rw [HEE.out, HEX.out]
            exact HE1.out.bit hE2 (coded_ok HE1.out.ok hp.1 hp.2) hS2 (HE1.out.inn.set i _ (Prob.nx_lo hp.1 hp.2)) c2
          have HBO2 : Hid (w2.heap[O]? = some (.cells #[.bool false, .int .i64 (i : Int), .int .i64 N, .int .u32 (X : Int)] 40 (0, 0))) := blk_keep HBO1.out c2 (fun f => by
            rcases f with f | f
            · exact HE1.out.en.miss HBO1.out (by decide) (by decide) f
            · obtain ⟨cur, hcur⟩ := owns_blk HE1.out.st.own f
              exact ty_ne HBO1.out hcur (by decide))
          clear hE2 hS2 c2 HE1 HBO1 o0 o1 o2 o3
          go_wp2_with fail
          refine (num_any 0 _).mono ?_
          rintro z w3 ⟨rfl, rfl⟩
          go_upto_region 16 with fail
          obtain ⟨jA, hjA, hjz, hj4, hj32⟩ := info_parts infoA
          have c8 := chg_one w2 (.cells #[.bool false, .int .i64 (i : Int), .int .i64 N, .int .u32 (X : Int)] 40)
          have hown : (w2.alloc (.cells #[.bool false, .int .i64 (i : Int), .int .i64 N, .int .u32 (X : Int)] 40)).ownsRow w0.heap.size 40 4 (.slice la M lc) M ((may n (l.take k)).flatMap Q.cells) := by
            have := (HE2.out.new c8).row
            rw [HM.out] at this
            exact this
          have hsz := (HE2.out.new c8).chg.size
          have HE8 : Hid (Ec w0 (w2.alloc (.cells #[.bool false, .int .i64 (i : Int), .int .i64 N, .int .u32 (X : Int)] 40)) a s v2 u (.slice la M lc) (encE q e xs) (encX q xs) (may n (l.take k))) := HE2.out.new c8
          have hsrc := from_a w2 (.bool false) (.int .i64 (i : Int)) (.int .i64 N) (.int .u32 (X : Int)) 40
          have n0 := (rcells4 HBO2.out).1
          have n1 := (rcells4 HBO2.out).2.1
          have n2 := (rcells4 HBO2.out).2.2.1
          have n3 := (rcells4 HBO2.out).2.2.2.1
          clear c8
          go_wp2_with (at_builtin; refine wpList_append_moved rfl _ _ 23 rfl w0.heap.size 40 jA (.agg #[.bool false, .int .i64 0, .int .i64 0, .int .u32 0]) 4 32 Try.underlying23 hjA hjz hj4 hj32 rfl (by decide) _ M ((may n (l.take k)).flatMap Q.cells) rfl (some ⟨w2.heap.size, 0, none⟩) 1 1 rfl [.bool false, .int .i64 (i : Int), .int .i64 N, .int .u32 (X : Int)] hown hsrc (fun u hu => by simp at hu; rcases hu with rfl | rfl | rfl | rfl <;> rfl) (by unfold maxLen; omega) (by omega) hsz ?_)
          intro v9 w9 ho9 hg9 _
          have HG9 : Hid ((w2.alloc (.cells #[.bool false, .int .i64 (i : Int), .int .i64 N, .int .u32 (X : Int)] 40)).grownBy w9 (Value.slice la M lc).ownBlock) := hg9
          have HE9 : Hid (Ec w0 w9 a s v2 u v9 (encE q e xs) (encX q xs) (may n (l.take k) ++ [q])) := HE8.out.push (by rw [HM.out]; rw [← HQ.out] ; exact ho9) hg9 (by rw [← HQ.out]; exact HX.out)
          have HS9 : Hid (At8 w0 l n (k + 1) w9 a s v2 u v9 (encE q e xs) (encX q xs)) := HA.out.step HL.out HOKQ.out HE9.out
          have HB9 : Hid (w9.heap[O]? = some (.cells #[.bool false, .int .i64 (i : Int), .int .i64 N, .int .u32 (X : Int)] 40 (0, 0))) := by
            have c9 : Chg (fun z => (Value.slice la M lc).ownBlock = some z) (w2.alloc (.cells #[.bool false, .int .i64 (i : Int), .int .i64 N, .int .u32 (X : Int)] 40)) w9 := (Chg.refl _ _).grown HG9.out (fun k e => .inl e)
            have hb8 := blk_keep HBO2.out (chg_one w2 (.cells #[.bool false, .int .i64 (i : Int), .int .i64 N, .int .u32 (X : Int)] 40)) (fun f => f)
            exact blk_keep hb8 c9 (fun f => by have := HOL.out _ f; omega)
          obtain ⟨la9, lc9, hv9⟩ := form4 HE9.out.row
          have n0' := (rcells4 HB9.out).1
          have n1' := (rcells4 HB9.out).2.1
          clear ho9 hg9 hown hsrc n0 n1 n2 n3
          subst hv9
          go_wp2_with fail
          go_roundw
          case rel => exact ⟨k + 1, v2, encE q e xs, encX q xs, by omega, by go_num, HS9.out⟩
          case measure => simp [intOf]; omega
        · have HS : Hid (At8 w0 l n (k + 1) w1 a s v u (.slice la M lc) e xs) := HA.out.skip HC1.out HL.out (by rw [← HQ.out]; exact fun f => hI (by simpa [Q.ok] using f))
          by_cases hI0 : 0 ≤ I
          · have hd1 : decide (I < (n : Int)) = false := by simp; omega
            go_wp2_with fail
            go_roundw
            case rel => exact ⟨k + 1, v, e, xs, by omega, by go_num, HS.out⟩
            case measure => simp [intOf]; omega
          · have hd1 : decide (0 ≤ I) = false := by simp; omega
            go_wp2_with fail
            go_roundw
            case rel => exact ⟨k + 1, v, e, xs, by omega, by go_num, HS.out⟩
            case measure => simp [intOf]; omega
    · obtain rfl : k = L := by omega
      have hE := HA.out.enc
      rw [List.drop_eq_nil_of_le (by rw [HLL.out]; omega)] at hE
      have HF1 : Hid ((encL l Rc.start (List.replicate n 1024)).1 = e) := by show _ = e; rw [← hE]; rfl
      have HF2 : Hid ((encL l Rc.start (List.replicate n 1024)).2 = xs) := by show _ = xs; rw [← hE]; rfl
      have hd : decide ((k : Int) < (k : Int)) = false := by simp
      obtain ⟨la, lc, hlv⟩ := form4 HA.out.ec.row
      have HK5 : Hid (e.k + 5 ≤ 140737488355328) := by have h2 := HA.out.le; show _ ≤ _; omega
      generalize (may n (l.take k)).length = M at hlv
      subst hlv
      clear hE
      go_wp2_with fail
      refine (bytes_any w0.heap.size a v e _ HA.out.ec.en HK5.out).mono ?_
      rintro z w2 ⟨bv, rfl, ho2, c2⟩
      have HO2 : Hid (w2.ownsRow w0.heap.size 5 1 bv ((encL l Rc.start (List.replicate n 1024)).1.k + 5) (ins .u8 (nums (Rc.by_ (encL l Rc.start (List.replicate n 1024)).1)))) := by show World.ownsRow _ _ _ _ _ _ _; rw [HF1.out]; exact owns_base ho2 HA.out.ec.chg.size
      have HA2 : Hid (At8 w0 l n k w2 a s v u (.slice la M lc) (encL l Rc.start (List.replicate n 1024)).1 (encL l Rc.start (List.replicate n 1024)).2) := by
        show At8 _ _ _ _ _ _ _ _ _ _ _ _
        rw [HF1.out, HF2.out]
        exact ⟨HA.out.ec.new c2, HA.out.len, HA.out.enc, HA.out.le⟩
      obtain ⟨ba, bc, hbv, _⟩ := own_any ho2
      subst hbv
      clear ho2 c2 HA HF1 HF2
      go_wp2
      go_ret3
      exact ⟨_, _, a, s, v, u, rfl, HO2.out, HA2.out⟩
end Go.Proofs.Ytejopgopcocapaa
