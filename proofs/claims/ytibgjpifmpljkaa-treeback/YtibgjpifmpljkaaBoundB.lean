/- Several texts in one, none of a statement by itself: RefE, RefA, RefB, En, LastP, EnA, EnB. -/
import Derived.Test.YtibgjpifmpljkaaBoundA
import Derived.Test.YtibgjpifmpljkaaRc
import Derived.Great.BuildSlice
import Derived.Test.YtibgjpifmpljkaaLow
/- The document's own encoder in memory ('Re') and the contracts of its New, Size, Bytes, adds, widens; of no statement by themselves. -/
namespace Go.Proofs.Ytibgjpifmpljkaa
open Go.RowKit
set_option linter.unusedVariables false

/-- Natural numbers as the model's. -/
def nums (l : List Nat) : List Int := l.map fun (n : Nat) => (n : Int)
theorem nums_len (l : List Nat) : (nums l).length = l.length := by simp [nums]
theorem nums_at (l : List Nat) (j : Nat) (h : j < l.length) : (nums l)[j]'(by rw [nums_len]; exact h) = (l[j] : Int) := by simp [nums]
theorem nums_set (l : List Nat) (j x : Nat) : (nums l).set j (x : Int) = nums (l.set j x) := by simp [nums, List.map_set]

/-- The document's encoder at r: its digits ds (the slice v), its range, its shifts. -/
structure Re (w : World) (B r : Nat) (v : Value) (ds : List Nat) (R k : Nat) : Prop where
  hr : B ≤ r
  blk : w.heap[r]? = some (.cells #[v, .int .u32 (R : Int), .int .i64 (k : Int)] 98 (0, 0))
  own : w.ownsRow B 5 1 v ds.length (ins .u8 (nums ds))
  dig : Rc.Dig ds
theorem Re.keep {w w' : World} {S : Nat → Prop} {B r : Nat} {v : Value} {ds : List Nat} {R k : Nat} (h : Re w B r v ds R k) (hc : Chg S w w') (hr : ¬ S r) (hv : ∀ g, v.ownBlock = some g → ¬ S g) : Re w' B r v ds R k :=
  ⟨h.hr, blk_keep h.blk hc hr, ownsRow_keep h.own hc hv, h.dig⟩
theorem Re.new {w w' : World} {B r : Nat} {v : Value} {ds : List Nat} {R k : Nat} (h : Re w B r v ds R k) (hc : Chg (fun _ => False) w w') : Re w' B r v ds R k := h.keep hc (fun f => f) (fun _ _ f => f)

theorem cells3 {w : World} {a : Nat} {x y z : Value} {t : TypeId} (h : w.heap[a]? = some (.cells #[x, y, z] t (0, 0))) : w.cell? ⟨a, 0, none⟩ = some x ∧ w.cell? ⟨a, 1, none⟩ = some y ∧ w.cell? ⟨a, 2, none⟩ = some z ∧ ∀ j, w.frozen? ⟨a, j, none⟩ = false :=
  ⟨by simp [World.cell?, h], by simp [World.cell?, h], by simp [World.cell?, h], fun j => by simp [World.frozen?, h]⟩

theorem infoU8 : (Try.prog.info? 5).map (fun i => (i.zero, i.size, i.bytes)) = some (some (.int .u8 0), 1, 1) := by kernel_rfl

set_option maxHeartbeats 1000000 in
set_option maxRecDepth 100000 in
theorem renew_any (w : World) : Calls Try.prog 27 #[] w fun e w' => ∃ r v, e = .returned (.pointer (some ⟨r, 0, none⟩)) ∧ w.heap.size ≤ r ∧ Re w' w.heap.size r v (List.replicate 5 0) 4294967295 0 ∧ Chg (fun _ => False) w w' := by
  obtain ⟨i0, hi, hz0, hz1, hz2⟩ := info_parts infoU8
  go_enter Try.func27, Try.ntmps27
  go_wp2_with (at_make; refine wpList_make_full _ rfl _ _ 39 rfl w.heap.size 5 i0 (.int .u8 0) 1 Try.underlying39 hi hz0 hz1 .i64 .i64 _ _ 5 rfl rfl rfl rfl (by rw [hz2]; omega) (by unfold maxLen; omega) (Nat.le_refl _) ?_)
  intro w1 ho hg
  have c1 : Chg (fun _ => False) w w1 := (Chg.refl _ w).grown hg (fun k e => by cases e)
  have c2 := chg_one w1 (.cells #[.slice (some ⟨w.heap.size, 0, none⟩) 5 5, .int .u32 4294967295, .int .i64 0] 98)
  have HO : Hid (w1.ownsRow w.heap.size 5 1 (.slice (some ⟨w.heap.size, 0, none⟩) 5 5) 5 (ins .u8 (nums (List.replicate 5 0)))) := by
    rw [toList_madeCells_one] at ho
    exact ho
  have HC : Hid (Chg (fun _ => False) w w1) := c1
  clear ho hg c1
  go_wp2
  go_ret
  exact ⟨_, _, rfl, HC.out.size, ⟨HC.out.size, heap_alloc_last w1 _, ownsRow_keep HO.out c2 (fun _ _ f => f), fun x hx => by obtain ⟨_, rfl⟩ := List.mem_replicate.1 hx; omega⟩, chg_then HC.out c2⟩

set_option maxHeartbeats 1000000 in
set_option maxRecDepth 100000 in
theorem rebytes_any (B r : Nat) (v : Value) (ds : List Nat) (R k : Nat) (w : World) (h : Re w B r v ds R k) (hl : ds.length ≤ 140737488355328) : Calls Try.prog 29 #[.pointer (some ⟨r, 0, none⟩)] w fun e w' => ∃ v', e = .returned v' ∧ w'.ownsRow w.heap.size 5 1 v' ds.length (ins .u8 (nums ds)) ∧ Chg (fun _ => False) w w' := by
  obtain ⟨i0, hi, hz0, hz1, hz2⟩ := info_parts infoU8
  have hone := ins_one .u8 (nums ds)
  obtain ⟨ad, cap, rfl, _⟩ := own_any h.own
  have c0 := (cells3 h.blk).1
  have hF := own_from h.own
  clear h
  go_enter Try.func29, Try.ntmps29
  go_wp2_with (at_builtin; refine wpList_append_moved rfl _ _ 39 rfl w.heap.size 5 i0 (.int .u8 0) 1 1 Try.underlying39 hi hz0 hz1 hz2 rfl (by decide) _ 0 [] rfl ad ds.length cap rfl (ins .u8 (nums ds)) (World.ownsRow_nil _ _ _ _) hF hone (by unfold maxLen; omega) (by omega) (Nat.le_refl _) ?_)
  intro v2 w2 ho hg hm
  have HC : Hid (Chg (fun _ => False) w w2) := (Chg.refl _ w).grown hg (fun k e => by cases e)
  have HO : Hid (w2.ownsRow w.heap.size 5 1 v2 ds.length (ins .u8 (nums ds))) := by
    show w2.ownsRow w.heap.size 5 1 v2 ds.length (ins .u8 (nums ds))
    simpa using ho
  clear ho hg hm hF c0
  obtain ⟨ad2, cap2, rfl, _⟩ := own_any HO.out
  go_wp2
  go_ret
  exact ⟨_, rfl, HO.out, HC.out⟩
end Go.Proofs.Ytibgjpifmpljkaa

/- The contracts of the document's adds and widens; of no statement by themselves. -/
namespace Go.Proofs.Ytibgjpifmpljkaa
open Go.RowKit
set_option linter.unusedVariables false

/-- One digit is written. -/
theorem Re.put {w : World} {B r g cap R k : Nat} {ds : List Nat} (h : Re w B r (.slice (some ⟨g, 0, none⟩) ds.length cap) ds R k) (j q : Nat) (hj : j < ds.length) (hq : q < 256) :
    Re (w.setCell ⟨g, j, none⟩ (.int .u8 (q : Int))) B r (.slice (some ⟨g, 0, none⟩) ds.length cap) (ds.set j q) R k ∧ Chg (fun z => (Value.slice (some ⟨g, 0, none⟩) ds.length cap).ownBlock = some z) w (w.setCell ⟨g, j, none⟩ (.int .u8 (q : Int))) := by
  have c1 : Chg (fun k => k = g) w (w.setCell ⟨g, j, none⟩ (.int .u8 (q : Int))) := (Chg.refl (fun k => k = g) w).setCell (p := ⟨g, j, none⟩) (.inl rfl) _
  refine ⟨⟨h.hr, blk_keep h.blk c1 (fun e => ?_), ?_, ?_⟩, ?_⟩
  · obtain ⟨cur, hcur⟩ := owns_blk h.own (g := g) rfl
    rw [e] at h
    exact ty_ne hcur h.blk (by decide)
  · have := own_set h.own j (.int .u8 (q : Int)) hj
    rw [ins_set, nums_set] at this
    rw [List.length_set]
    exact this
  · intro x hx
    rcases List.mem_or_eq_of_mem_set hx with e | e
    · exact h.dig x e
    · subst e; exact hq
  · exact c1.mono (fun i e => .inl (by subst e; rfl))

theorem take_at (ds ts : List Nat) (j : Nat) (hj : j < ds.length) : (ds.take (j + 1) ++ ts)[j]? = some ds[j] := by
  rw [List.getElem?_append_left (by simp; omega), List.getElem?_take]
  simp [hj]
theorem take_set (ds ts : List Nat) (j q : Nat) (hj : j < ds.length) : (ds.take (j + 1) ++ ts).set j q = ds.take j ++ q :: ts := by
  rw [List.take_succ_eq_append_getElem hj, List.append_assoc, List.set_append_right _ _ (by simp; omega)]
  have : j - (ds.take j).length = 0 := by simp; omega
  rw [this]
  rfl

set_option maxHeartbeats 2000000 in
set_option maxRecDepth 100000 in
theorem adds_any (B r : Nat) (v : Value) (ds : List Nat) (R k x : Nat) (w0 : World) (h : Re w0 B r v ds R k) (hx : x ≤ 4294967295) (hl : ds.length ≤ 140737488355328) (hp : 0 < ds.length) (hfit : x + Rc.val ds < 256 ^ ds.length) :
    Calls Try.prog 87 #[.pointer (some ⟨r, 0, none⟩), .int .u32 (x : Int)] w0 fun e w' => e = .returned (.tuple #[]) ∧ Re w' B r v (Rc.dg ds.length (Rc.val ds + x)) R k ∧ Chg (fun z => v.ownBlock = some z) w0 w' := by
  obtain ⟨g, cap, rfl, hnc, _, _, _, _, _⟩ := own_some h.own hp
  have hca := (cells3 h.blk).1
  have HD : Hid (Rc.Dig ds) := h.dig
  have HF : Hid (x + Rc.val ds < 256 ^ ds.length) := hfit
  have hst : Re w0 B r (.slice (some ⟨g, 0, none⟩) ds.length cap) (ds.take ds.length ++ []) R k := by rw [List.take_length, List.append_nil]; exact h
  have HE : Hid (x * 256 ^ (ds.length - ds.length) + Rc.val [] = x + Rc.val (ds.drop ds.length)) := by show _ = _; simp [Rc.val]
  clear h hfit
  generalize hN : ds.length = n at *
  have HN : Hid (ds.length = n) := hN
  clear hN
  go_enter Try.func87, Try.ntmps87
  go_wp2_with fail
  go_loopw [4, 5] (fun cv iv wr => ∃ (m c : Nat) (ts : List Nat), m ≤ n ∧ iv = .int .i64 ((m : Int) - 1) ∧ cv = .int .u64 (c : Int) ∧ c ≤ 4294967295 ∧ Re wr B r (.slice (some ⟨g, 0, none⟩) n cap) (ds.take m ++ ts) R k ∧ Hid (ts.length = n - m) ∧ Hid (c * 256 ^ (n - m) + Rc.val ts = x + Rc.val (ds.drop m)) ∧ Chg (fun z => (Value.slice (some ⟨g, 0, none⟩) n cap).ownBlock = some z) w0 wr) (fun _ iv _ => (intOf iv + 1).toNat)
  case atStart => exact ⟨n, x, [], Nat.le_refl _, rfl, rfl, hx, hst, by show 0 = n - n; omega, HE.out, Chg.refl _ _⟩
  case round =>
    clear hst hca HE
    obtain ⟨m, c, ts, hm, rfl, rfl, hc, hR, HL, HS, hC⟩ := hrel
    cases m with
    | zero =>
      have hR2 : Re wr B r (.slice (some ⟨g, 0, none⟩) n cap) ts R k := by simpa using hR
      have HR2 : Hid (Re wr B r (.slice (some ⟨g, 0, none⟩) n cap) (Rc.dg n (Rc.val ds + x)) R k) := by
        have h1 := HS.out
        have h2 := HL.out
        have h3 := HF.out
        rw [Nat.sub_zero] at h1 h2
        rw [List.drop_zero] at h1
        have hc0 : c = 0 := by
          rcases Nat.eq_zero_or_pos c with e | e
          · exact e
          · have := Nat.mul_le_mul_right (256 ^ n) e
            omega
        subst hc0
        have e1 : Rc.dg n (Rc.val ds + x) = ts := by
          rw [← h2, show Rc.val ds + x = Rc.val ts by omega]
          exact Rc.dg_val hR2.dig
        show Re _ _ _ _ _ _ _
        rw [e1]
        exact hR2
      clear hR hR2 HS
      go_wp2
      go_end0
      exact ⟨rfl, HR2.out, hC⟩
    | succ j =>
      have hj : j < ds.length := by have := HN.out; omega
      have hlen : (ds.take (j + 1) ++ ts).length = n := by have := HL.out; have := HN.out; simp; omega
      have hca := (cells3 hR.blk).1
      have hR1 := hR
      rw [← hlen] at hR1
      obtain ⟨g2, cap2, e2, _, _, _, _, hfz, hcell⟩ := own_some hR1.own (by omega)
      simp only [Value.slice.injEq, Option.some.injEq, Addr.mk.injEq, true_and, and_true] at e2
      obtain ⟨rfl, _⟩ := e2
      have hd : ds[j] < 256 := HD.out _ (List.getElem_mem hj)
      have hx1 := hcell j (.int .u8 (ds[j] : Int)) (by
        have := take_at ds ts j hj
        simp only [ins, nums, List.map_map, List.getElem?_map, this]
        rfl)
      have hz1 := hfz j
      have HP : Hid (Re (wr.setCell ⟨g, j, none⟩ (.int .u8 (((c + ds[j]) % 256 : Nat) : Int))) B r (.slice (some ⟨g, 0, none⟩) n cap) (ds.take j ++ (c + ds[j]) % 256 :: ts) R k ∧ Chg (fun z => (Value.slice (some ⟨g, 0, none⟩) n cap).ownBlock = some z) w0 (wr.setCell ⟨g, j, none⟩ (.int .u8 (((c + ds[j]) % 256 : Nat) : Int)))) := by
        obtain ⟨p1, p2⟩ := hR1.put j ((c + ds[j]) % 256) (by omega) (Nat.mod_lt _ (by omega))
        rw [take_set ds ts j _ hj, hlen] at p1
        rw [hlen] at p2
        exact ⟨p1, hC.trans p2 (fun _ e => .inl e)⟩
      have HS2 : Hid ((c + ds[j]) / 256 * 256 ^ (n - j) + Rc.val ((c + ds[j]) % 256 :: ts) = x + Rc.val (ds.drop j)) := by
        have h1 := HS.out
        have h2 := HL.out
        have e1 : n - j = n - (j + 1) + 1 := by omega
        have e3 : (ds.drop (j + 1)).length = n - (j + 1) := by have := HN.out; simp; omega
        show _ = _
        rw [List.drop_eq_getElem_cons hj, e1]
        simp only [Rc.val]
        rw [h2, e3]
        exact Rc.sum_step _ _ _ _ _ _ h1
      have HL2 : Hid (((c + ds[j]) % 256 :: ts).length = n - j) := by have := HL.out; show _ = _; simp; omega
      clear hR hR1 hcell hfz HS HL hlen hC
      generalize ds[j] = d at *
      go_wp2
      go_roundw
      case rel => exact ⟨j, (c + d) / 256, (c + d) % 256 :: ts, by omega, by go_num, by go_num, by omega, HP.out.1, HL2.out, HS2.out, HP.out.2⟩
      case measure => simp [intOf]

set_option maxHeartbeats 1000000 in
set_option maxRecDepth 100000 in
theorem widens_no (B r : Nat) (v : Value) (ds : List Nat) (R k : Nat) (w : World) (h : Re w B r v ds R k) (hR : 16777216 ≤ R) (hR2 : R ≤ 4294967295) : Calls Try.prog 88 #[.pointer (some ⟨r, 0, none⟩)] w fun e w' => e = .returned (.tuple #[]) ∧ w = w' := by
  have c1 := (cells3 h.blk).2.1
  clear h
  obtain ⟨z, hz⟩ : ∃ z : Int, z = (R : Int) := ⟨_, rfl⟩
  have h1 : 16777216 ≤ z := by omega
  have h2 : z ≤ 4294967295 := by omega
  rw [← hz] at c1
  clear hz hR hR2
  have hd : decide (z < 16777216) = false := by simp; omega
  go_enter Try.func88, Try.ntmps88
  go_wp2_with fail
  refine wp_loop_rounds 1 ?_
  rw [rounds_succ]
  go_wp2
  go_end0
  exact ⟨rfl, rfl⟩

theorem from_one8 (w : World) (x : Value) (t : TypeId) : From (w.alloc (.cells #[x] t)) (some ⟨w.heap.size, 0, none⟩) 1 1 1 [x] := by
  refine ⟨rfl, .inr ⟨_, rfl, fun j u hu => ?_⟩⟩
  have hb : (w.alloc (.cells #[x] t)).heap[w.heap.size]? = some (.cells #[x] t (0, 0)) := heap_alloc_last _ _
  match j, hu with
  | 0, hu =>
    simp at hu
    subst hu
    rw [addk]
    exact cell00 hb

theorem set_size (w : World) (p : Addr) (v : Value) : (w.setCell p v).heap.size = w.heap.size := by simp [World.setCell]
theorem from_set8 (w : World) (p : Addr) (v x : Value) (t : TypeId) : From ((w.setCell p v).alloc (.cells #[x] t)) (some ⟨w.heap.size, 0, none⟩) 1 1 1 [x] := by
  have h := from_one8 (w.setCell p v) x t
  rw [set_size] at h
  exact h

/-- Behind one round of widening. -/
theorem widened {w w2 : World} {B r R k : Nat} {v v2 : Value} {ds : List Nat} (h : Re w B r v ds R k) (ho : w2.ownsRow B 5 1 v2 (ds.length + 1) (ins .u8 (nums ds) ++ [.int .u8 0])) (hg : ((w.setCell ⟨r, 1, none⟩ (.int .u32 ((R : Int) * 256))).alloc (.cells #[.int .u8 0] 5)).grownBy w2 v.ownBlock) :
    w2.heap[r]? = some (.cells #[v, .int .u32 ((R : Int) * 256), .int .i64 (k : Int)] 98 (0, 0)) ∧ Re ((w2.setCell ⟨r, 0, none⟩ v2).setCell ⟨r, 2, none⟩ (.int .i64 ((k : Int) + 1))) B r v2 (ds ++ [0]) (256 * R) (k + 1) ∧ Chg (Foot r v) w ((w2.setCell ⟨r, 0, none⟩ v2).setCell ⟨r, 2, none⟩ (.int .i64 ((k : Int) + 1))) := by
  have b1 : (w.setCell ⟨r, 1, none⟩ (.int .u32 ((R : Int) * 256))).heap[r]? = some (.cells #[v, .int .u32 ((R : Int) * 256), .int .i64 (k : Int)] 98 (0, 0)) := blk_setk (l := [v, .int .u32 (R : Int), .int .i64 (k : Int)]) h.blk 1 _
  have c1 : Chg (fun z => z = r) w (w.setCell ⟨r, 1, none⟩ (.int .u32 ((R : Int) * 256))) := (Chg.refl (fun z => z = r) w).setCell (p := ⟨r, 1, none⟩) (.inl rfl) _
  have c2 := chg_one (w.setCell ⟨r, 1, none⟩ (.int .u32 ((R : Int) * 256))) (.cells #[.int .u8 0] 5)
  have c3 : Chg (fun z => v.ownBlock = some z) _ w2 := (Chg.refl _ ((w.setCell ⟨r, 1, none⟩ (.int .u32 ((R : Int) * 256))).alloc (.cells #[.int .u8 0] 5))).grown hg (fun k e => .inl e)
  have nv : ∀ {t : TypeId} {cs : Array Value} {W : World} {n : Nat} {u : Value} {xs : List Value}, W.ownsRow B 5 1 u n xs → W.heap[r]? = some (.cells cs t (0, 0)) → t ≠ 5 → u.ownBlock ≠ some r := fun ho hb ht e => by
    obtain ⟨cur, hcur⟩ := owns_blk ho e
    exact ty_ne hb hcur ht
  have o1 := ownsRow_keep h.own c1 (fun g e e2 => nv h.own h.blk (by decide) (by rw [← e2]; exact e))
  have b2 := blk_keep b1 c2 (fun f => f)
  have o2 := ownsRow_keep o1 c2 (fun _ _ f => f)
  have b3 := blk_keep b2 c3 (nv o2 b2 (by decide))
  have c4 : Chg (fun z => z = r) w2 (w2.setCell ⟨r, 0, none⟩ v2) := (Chg.refl (fun z => z = r) w2).setCell (p := ⟨r, 0, none⟩) (.inl rfl) _
  have c5 : Chg (fun z => z = r) (w2.setCell ⟨r, 0, none⟩ v2) ((w2.setCell ⟨r, 0, none⟩ v2).setCell ⟨r, 2, none⟩ (.int .i64 ((k : Int) + 1))) := (Chg.refl (fun z => z = r) (w2.setCell ⟨r, 0, none⟩ v2)).setCell (p := ⟨r, 2, none⟩) (.inl rfl) _
  have c45 := c4.trans c5 (fun _ e => .inl e)
  have b4 : (w2.setCell ⟨r, 0, none⟩ v2).heap[r]? = some (.cells #[v2, .int .u32 ((R : Int) * 256), .int .i64 (k : Int)] 98 (0, 0)) := blk_setk (l := [v, .int .u32 ((R : Int) * 256), .int .i64 (k : Int)]) b3 0 _
  have b5 := blk_setk (l := [v2, .int .u32 ((R : Int) * 256), .int .i64 (k : Int)]) b4 2 (.int .i64 ((k : Int) + 1))
  have e1 : ((256 * R : Nat) : Int) = (R : Int) * 256 := by omega
  have e2 : ((k + 1 : Nat) : Int) = (k : Int) + 1 := by omega
  refine ⟨b3, ⟨h.hr, by rw [e1, e2]; exact b5, ?_, ?_⟩, ?_⟩
  · have e : ins .u8 (nums (ds ++ [0])) = ins .u8 (nums ds) ++ [.int .u8 0] := by simp [ins, nums]
    rw [List.length_append, e]
    exact ownsRow_keep ho c45 (fun g e e2 => nv ho b3 (by decide) (by rw [← e2]; exact e))
  · intro x hx
    rcases List.mem_append.1 hx with e | e
    · exact h.dig x e
    · simp at e; omega
  · exact (((c1.mono (T := Foot r v) (fun _ e => .inl (.inl e))).trans c2 (fun _ f => f.elim)).trans c3 (fun _ e => .inl (.inr e))).trans c45 (fun _ e => .inl (.inl e))

set_option maxHeartbeats 2000000 in
set_option maxRecDepth 100000 in
theorem widens_yes (B r : Nat) (v : Value) (ds : List Nat) (R k : Nat) (w : World) (h : Re w B r v ds R k) (hR1 : 65536 ≤ R) (hR2 : R < 16777216) (hk : k ≤ 4611686018427387904) (hl : ds.length < 140737488355328) (hB : B ≤ w.heap.size) :
    Calls Try.prog 88 #[.pointer (some ⟨r, 0, none⟩)] w fun e w' => e = .returned (.tuple #[]) ∧ ∃ v', Re w' B r v' (ds ++ [0]) (256 * R) (k + 1) ∧ Chg (Foot r v) w w' ∧ Moved w v v' := by
  obtain ⟨i0, hi, hz0, hz1, hz2⟩ := info_parts infoU8
  have HW : Hid (∀ (v2 : Value) (w2 : World), w2.ownsRow B 5 1 v2 (ds.length + 1) (ins .u8 (nums ds) ++ [.int .u8 0]) → ((w.setCell ⟨r, 1, none⟩ (.int .u32 ((R : Int) * 256))).alloc (.cells #[.int .u8 0] 5)).grownBy w2 v.ownBlock → w2.heap[r]? = some (.cells #[v, .int .u32 ((R : Int) * 256), .int .i64 (k : Int)] 98 (0, 0)) ∧ Re ((w2.setCell ⟨r, 0, none⟩ v2).setCell ⟨r, 2, none⟩ (.int .i64 ((k : Int) + 1))) B r v2 (ds ++ [0]) (256 * R) (k + 1) ∧ Chg (Foot r v) w ((w2.setCell ⟨r, 0, none⟩ v2).setCell ⟨r, 2, none⟩ (.int .i64 ((k : Int) + 1)))) := fun v2 w2 ho hg => widened h ho hg
  have HN : Hid (∀ (W : World) (u : Value) (es : List Nat), Re W B r u es (256 * R) (k + 1) → W.cell? ⟨r, 1, none⟩ = some (.int .u32 ((R : Int) * 256))) := fun W u es hW => by
    have e1 : ((256 * R : Nat) : Int) = (R : Int) * 256 := by omega
    rw [← e1]
    exact (cells3 hW.blk).2.1
  obtain ⟨ad, cap, hv, _⟩ := own_any h.own
  have HV : Hid (v = .slice ad ds.length cap) := hv
  obtain ⟨k0, k1, k2, kf⟩ := cells3 h.blk
  rw [hv] at k0
  have f1 := kf 1
  have c1 : Chg (fun z => z = r) w (w.setCell ⟨r, 1, none⟩ (.int .u32 ((R : Int) * 256))) := (Chg.refl (fun z => z = r) w).setCell (p := ⟨r, 1, none⟩) (.inl rfl) _
  have o1 := ownsRow_keep h.own c1 (fun g e e2 => by obtain ⟨cur, hcur⟩ := owns_blk h.own e; rw [e2] at hcur; exact ty_ne h.blk hcur (by decide))
  have o2 := o1.alloc (.cells #[.int .u8 0] 5)
  rw [hv] at o2
  have hfr := from_set8 w ⟨r, 1, none⟩ (.int .u32 ((R : Int) * 256)) (.int .u8 0) 5
  have hone : ∀ u ∈ [Value.int .u8 0], u.oneCell' = true := fun u hu => by simp at hu; subst hu; rfl
  have hsz : B ≤ ((w.setCell ⟨r, 1, none⟩ (.int .u32 ((R : Int) * 256))).alloc (.cells #[.int .u8 0] 5)).heap.size := by
    have := (chg_one (w.setCell ⟨r, 1, none⟩ (.int .u32 ((R : Int) * 256))) (.cells #[.int .u8 0] 5)).size
    rw [set_size] at this
    omega
  have HM : Hid (∀ (v2 : Value), Moved ((w.setCell ⟨r, 1, none⟩ (.int .u32 ((R : Int) * 256))).alloc (.cells #[.int .u8 0] 5)) v v2 → Moved w v v2) := fun v2 hm g e => by
    rcases hm g e with e | e
    · exact .inl e
    · have := (chg_one (w.setCell ⟨r, 1, none⟩ (.int .u32 ((R : Int) * 256))) (.cells #[.int .u8 0] 5)).size
      rw [set_size] at this
      exact .inr (by omega)
  clear h hv c1 o1 kf
  generalize hz : (R : Int) = z at *
  have z1 : 65536 ≤ z := by omega
  have z2 : z < 16777216 := by omega
  clear hz hR1 hR2
  go_enter Try.func88, Try.ntmps88
  go_wp2_with fail
  go_loopw [2] (fun _ wr => wr = w ∨ ∃ v', Re wr B r v' (ds ++ [0]) (256 * R) (k + 1) ∧ Chg (Foot r v) w wr ∧ Moved w v v') (fun _ wr => match wr.cell? ⟨r, 1, none⟩ with | some (.int _ q) => (16777216 - q).toNat | _ => 0)
  case atStart => exact .inl rfl
  case round =>
    rcases hrel with rfl | ⟨v', hR, hC, hM⟩
    · go_wp2_with (at_builtin; refine wpList_append_moved rfl _ _ 39 rfl B 5 i0 (.int .u8 0) 1 1 Try.underlying39 hi hz0 hz1 hz2 rfl (by decide) _ ds.length (ins .u8 (nums ds)) rfl (some ⟨wr.heap.size, 0, none⟩) 1 1 rfl [.int .u8 0] o2 hfr hone (by unfold maxLen; omega) (by omega) hsz ?_)
      intro v2 w2 ho hg hm
      rw [← HV.out] at hg hm
      obtain ⟨hb2, hR2, hC2⟩ := HW.out v2 w2 ho hg
      have HM2 : Hid (Moved wr v v2) := HM.out v2 hm
      have HR2 : Hid (Re ((w2.setCell ⟨r, 0, none⟩ v2).setCell ⟨r, 2, none⟩ (.int .i64 ((k : Int) + 1))) B r v2 (ds ++ [0]) (256 * R) (k + 1)) := hR2
      have HC2 : Hid (Chg (Foot r v) wr ((w2.setCell ⟨r, 0, none⟩ v2).setCell ⟨r, 2, none⟩ (.int .i64 ((k : Int) + 1)))) := hC2
      have HQ : Hid (((w2.setCell ⟨r, 0, none⟩ v2).setCell ⟨r, 2, none⟩ (.int .i64 ((k : Int) + 1))).cell? ⟨r, 1, none⟩ = some (.int .u32 (z * 256))) := HN.out _ _ _ hR2
      obtain ⟨m0, m1, m2, mf⟩ := cells3 hb2
      have g0 := mf 0
      have g2 := mf 2
      obtain ⟨ad2, cap2, hv2, _⟩ := own_any ho
      subst hv2
      clear ho hg hm hR2 hC2 hb2 mf o2 hfr hone hsz
      go_wp2

      go_roundw
      case rel => exact .inr ⟨_, HR2.out, HC2.out, HM2.out⟩
      case measure => rw [HQ.out, k1]; simp; omega
    · have n1 := HN.out _ _ _ hR
      have hd : decide (z * 256 < 16777216) = false := by simp; omega
      clear k0 k1 k2 f1 o2 hfr hone hsz
      go_wp2
      go_end0
      exact ⟨rfl, v', hR, hC, hM⟩
end Go.Proofs.Ytibgjpifmpljkaa

/- The contracts of the document's cut, Bit, Direct, Fork, by the encoder over natural numbers; of no statement by themselves. -/
namespace Go.Proofs.Ytibgjpifmpljkaa
open Go.RowKit
set_option linter.unusedVariables false

theorem Re.lt {w : World} {B r R k : Nat} {v : Value} {ds : List Nat} (h : Re w B r v ds R k) : r < w.heap.size := lt_of_blk h.blk
theorem Re.ne {w : World} {B r R k : Nat} {v : Value} {ds : List Nat} (h : Re w B r v ds R k) : v.ownBlock ≠ some r := fun e => by
  obtain ⟨cur, hcur⟩ := owns_blk h.own e
  exact ty_ne h.blk hcur (by decide)
/-- The range is written. -/
theorem Re.setR {w : World} {B r R k Q : Nat} {v : Value} {ds : List Nat} (h : Re w B r v ds R k) (q : Int) (hq : q = (Q : Int)) : Re (w.setCell ⟨r, 1, none⟩ (.int .u32 q)) B r v ds Q k ∧ Chg (fun z => z = r) w (w.setCell ⟨r, 1, none⟩ (.int .u32 q)) := by
  have c1 : Chg (fun z => z = r) w (w.setCell ⟨r, 1, none⟩ (.int .u32 q)) := (Chg.refl (fun z => z = r) w).setCell (p := ⟨r, 1, none⟩) (.inl rfl) _
  subst hq
  exact ⟨⟨h.hr, blk_setk (l := [v, .int .u32 (R : Int), .int .i64 (k : Int)]) h.blk 1 _, ownsRow_keep h.own c1 (fun g e e2 => h.ne (by rw [← e2]; exact e)), h.dig⟩, c1⟩

/-- Behind widening. -/
theorem widens_any (B r : Nat) (v : Value) (f : Rc.E) (w : World) (h : Re w B r v (Rc.dg (f.k + 5) f.L) f.R f.k) (h1 : 65536 ≤ f.R) (h2 : f.R ≤ 4294967295) (hk : f.k ≤ 70368744177664) (hB : B ≤ w.heap.size) :
    Calls Try.prog 88 #[.pointer (some ⟨r, 0, none⟩)] w fun e w' => e = .returned (.tuple #[]) ∧ ∃ v', Re w' B r v' (Rc.by_ (Rc.widen f)) (Rc.widen f).R (Rc.widen f).k ∧ Chg (Foot r v) w w' ∧ Moved w v v' := by
  by_cases hR : f.R < 16777216
  · have e : Rc.widen f = ⟨256 * f.L, 256 * f.R, f.k + 1⟩ := by unfold Rc.widen; rw [if_pos hR]
    have hb : Rc.by_ ⟨256 * f.L, 256 * f.R, f.k + 1⟩ = Rc.dg (f.k + 5) f.L ++ [0] := Rc.dg_shift (f.k + 5) f.L
    rw [e, hb]
    exact widens_yes B r v _ f.R f.k w h h1 hR (by omega) (by rw [Rc.dg_len]; omega) hB
  · have e : Rc.widen f = f := by unfold Rc.widen; rw [if_neg hR]
    rw [e]
    exact (widens_no B r v _ f.R f.k w h (by omega) h2).mono fun x w' ⟨he, hw⟩ => ⟨he, v, by rw [← hw]; exact h, by rw [← hw]; exact Chg.refl _ _, Moved.refl _ _⟩

theorem foot_then {w w1 w2 : World} {r : Nat} {v v1 : Value} (h : Chg (Foot r v) w w1) (hm : Moved w v v1) (h2 : Chg (Foot r v1) w1 w2) : Chg (Foot r v) w w2 := h.trans h2 (fun i e => hm.foot r i e)

set_option maxHeartbeats 1000000 in
set_option maxRecDepth 100000 in
theorem recut_zero (B r : Nat) (v : Value) (e : Rc.E) (b : Nat) (w : World) (h : Re w B r v (Rc.by_ e) e.R e.k) (hO : Rc.Ok e) (h1 : 65536 ≤ b) (h2 : b + 65536 ≤ e.R) (hk : e.k ≤ 70368744177664) (hB : B ≤ w.heap.size) :
    Calls Try.prog 84 #[.pointer (some ⟨r, 0, none⟩), .int .u32 (b : Int), .int .i64 0] w fun x w' => x = .returned (.tuple #[]) ∧ ∃ v', Re w' B r v' (Rc.by_ (Rc.cut e b false)) (Rc.cut e b false).R (Rc.cut e b false).k ∧ Chg (Foot r v) w w' ∧ Moved w v v' := by
  obtain ⟨_, k1, _, kf⟩ := cells3 h.blk
  have f1 := kf 1
  have hi := hO.hi
  obtain ⟨hS, hC⟩ := h.setR (b : Int) rfl
  have HS : Hid (Re (w.setCell ⟨r, 1, none⟩ (.int .u32 (b : Int))) B r v (Rc.dg (e.k + 5) e.L) b e.k) := hS
  have HC : Hid (Chg (fun z => z = r) w (w.setCell ⟨r, 1, none⟩ (.int .u32 (b : Int)))) := hC
  clear h kf hS hC
  go_enter Try.func84, Try.ntmps84
  go_wp2_with fail
  refine (widens_any B r v ⟨e.L, b, e.k⟩ _ HS.out h1 (by show b ≤ _; omega) hk (by rw [set_size]; exact hB)).mono ?_
  rintro x w2 ⟨rfl, v', hR, hC2, hM⟩
  have HR : Hid (Re w2 B r v' (Rc.by_ (Rc.cut e b false)) (Rc.cut e b false).R (Rc.cut e b false).k) := hR
  have HC2 : Hid (Chg (Foot r v) w w2) := (HC.out.mono (T := Foot r v) (fun _ e => .inl (.inl e))).trans hC2 (fun _ e => .inl e)
  have HM : Hid (Moved w v v') := fun g e => by
    rcases hM g e with e | e
    · exact .inl e
    · rw [set_size] at e; exact .inr e
  clear hR hC2 hM HS HC
  go_wp2
  go_end0
  exact ⟨rfl, v', HR.out, HC2.out, HM.out⟩

set_option maxHeartbeats 1000000 in
set_option maxRecDepth 100000 in
theorem recut_one (B r : Nat) (v : Value) (e : Rc.E) (b : Nat) (t : Int) (w : World) (h : Re w B r v (Rc.by_ e) e.R e.k) (hO : Rc.Ok e) (h1 : 65536 ≤ b) (h2 : b + 65536 ≤ e.R) (ht : t ≠ 0) (hk : e.k ≤ 70368744177664) (hB : B ≤ w.heap.size) :
    Calls Try.prog 84 #[.pointer (some ⟨r, 0, none⟩), .int .u32 (b : Int), .int .i64 t] w fun x w' => x = .returned (.tuple #[]) ∧ ∃ v', Re w' B r v' (Rc.by_ (Rc.cut e b true)) (Rc.cut e b true).R (Rc.cut e b true).k ∧ Chg (Foot r v) w w' ∧ Moved w v v' := by
  have hi := hO.hi
  have hlen : (Rc.by_ e).length = e.k + 5 := Rc.dg_len _ _
  have hval : Rc.val (Rc.by_ e) = e.L := Rc.val_dg _ _ hO.lt
  have hfit : b + Rc.val (Rc.by_ e) < 256 ^ (Rc.by_ e).length := by
    rw [hval, hlen]
    have h3 := hO.sum
    have e1 : 256 ^ (e.k + 5) = 256 ^ e.k * 1099511627776 := by rw [Nat.pow_add]
    have pos : 0 < 256 ^ e.k := Nat.pow_pos (by omega)
    omega
  have HA : Hid (∀ w2, w2 = w → Calls Try.prog 87 #[.pointer (some ⟨r, 0, none⟩), .int .u32 (b : Int)] w2 fun x w' => x = .returned (.tuple #[]) ∧ Re w' B r v (Rc.dg (e.k + 5) (e.L + b)) e.R e.k ∧ Chg (fun z => v.ownBlock = some z) w w') := fun w2 e2 => by
    subst e2
    have := adds_any B r v (Rc.by_ e) e.R e.k b w2 h (by omega) (by rw [hlen]; omega) (by rw [hlen]; omega) hfit
    rw [hlen, hval] at this
    exact this
  clear h hlen hval hfit
  go_enter Try.func84, Try.ntmps84
  go_wp2_with fail
  refine (HA.out _ rfl).mono ?_
  rintro x w1 ⟨rfl, hR1, hC1⟩
  obtain ⟨_, k1, _, kf⟩ := cells3 hR1.blk
  have f1 := kf 1
  obtain ⟨hS, hC⟩ := hR1.setR (Q := e.R - b) ((e.R : Int) - (b : Int)) (by omega)
  have HS : Hid (Re (w1.setCell ⟨r, 1, none⟩ (.int .u32 ((e.R : Int) - (b : Int)))) B r v (Rc.dg (e.k + 5) (e.L + b)) (e.R - b) e.k) := hS
  have HC : Hid (Chg (Foot r v) w (w1.setCell ⟨r, 1, none⟩ (.int .u32 ((e.R : Int) - (b : Int))))) := (hC1.mono (T := Foot r v) (fun _ e => .inl (.inr e))).trans hC (fun _ e => .inl (.inl e))
  have hs1 : w.heap.size ≤ w1.heap.size := hC1.size
  clear kf hS hC hR1 hC1 HA
  go_wp2_with fail
  refine (widens_any B r v ⟨e.L + b, e.R - b, e.k⟩ _ HS.out (by show _ ≤ e.R - b; omega) (by show e.R - b ≤ _; omega) hk (by rw [set_size]; omega)).mono ?_
  rintro x w2 ⟨rfl, v', hR, hC2, hM⟩
  have HR : Hid (Re w2 B r v' (Rc.by_ (Rc.cut e b true)) (Rc.cut e b true).R (Rc.cut e b true).k) := hR
  have HC2 : Hid (Chg (Foot r v) w w2) := HC.out.trans hC2 (fun _ e => .inl e)
  have HM : Hid (Moved w v v') := fun g e => by
    rcases hM g e with e | e
    · exact .inl e
    · rw [set_size] at e; exact .inr (by omega)
  clear hR hC2 hM HS HC
  go_wp2
  go_end0
  exact ⟨rfl, v', HR.out, HC2.out, HM.out⟩
end Go.Proofs.Ytibgjpifmpljkaa

/- The program's encoder in memory ('En') and the contracts of New and size; of no statement by themselves. -/
namespace Go.Proofs.Ytibgjpifmpljkaa
open Go.RowKit
set_option linter.unusedVariables false

/-- The program's encoder at a: its low end l (settled digits: the slice v), its range. -/
structure En (w : World) (B a : Nat) (v : Value) (l : Rc.Lo) (R : Nat) : Prop where
  hr : B ≤ a
  blk : w.heap[a]? = some (.cells #[v, .int .u8 (l.h : Int), .int .i64 (l.r : Int), .int .u32 (l.t : Int), .int .u32 (R : Int)] 75 (0, 0))
  own : w.ownsRow B 5 1 v l.s.length (ins .u8 (nums l.s))
theorem En.keep {w w' : World} {S : Nat → Prop} {B a : Nat} {v : Value} {l : Rc.Lo} {R : Nat} (h : En w B a v l R) (hc : Chg S w w') (hr : ¬ S a) (hv : ∀ g, v.ownBlock = some g → ¬ S g) : En w' B a v l R :=
  ⟨h.hr, blk_keep h.blk hc hr, ownsRow_keep h.own hc hv⟩
theorem En.new {w w' : World} {B a : Nat} {v : Value} {l : Rc.Lo} {R : Nat} (h : En w B a v l R) (hc : Chg (fun _ => False) w w') : En w' B a v l R := h.keep hc (fun f => f) (fun _ _ f => f)
theorem En.lt {w : World} {B a R : Nat} {v : Value} {l : Rc.Lo} (h : En w B a v l R) : a < w.heap.size := lt_of_blk h.blk
theorem En.ne {w : World} {B a R : Nat} {v : Value} {l : Rc.Lo} (h : En w B a v l R) : v.ownBlock ≠ some a := fun e => by
  obtain ⟨cur, hcur⟩ := owns_blk h.own e
  exact ty_ne h.blk hcur (by decide)

theorem cells5 {w : World} {a : Nat} {x0 x1 x2 x3 x4 : Value} {t : TypeId} (h : w.heap[a]? = some (.cells #[x0, x1, x2, x3, x4] t (0, 0))) : w.cell? ⟨a, 0, none⟩ = some x0 ∧ w.cell? ⟨a, 1, none⟩ = some x1 ∧ w.cell? ⟨a, 2, none⟩ = some x2 ∧ w.cell? ⟨a, 3, none⟩ = some x3 ∧ w.cell? ⟨a, 4, none⟩ = some x4 ∧ ∀ j, w.frozen? ⟨a, j, none⟩ = false :=
  ⟨by simp [World.cell?, h], by simp [World.cell?, h], by simp [World.cell?, h], by simp [World.cell?, h], by simp [World.cell?, h], fun j => by simp [World.frozen?, h]⟩

theorem En.setH {w : World} {B a R : Nat} {v : Value} {l : Rc.Lo} (h : En w B a v l R) (x : Nat) (q : Int) (hq : q = (x : Int)) : En (w.setCell ⟨a, 1, none⟩ (.int .u8 q)) B a v ⟨l.s, x, l.r, l.t⟩ R ∧ Chg (fun z => z = a) w (w.setCell ⟨a, 1, none⟩ (.int .u8 q)) := by
  have c1 : Chg (fun z => z = a) w (w.setCell ⟨a, 1, none⟩ (.int .u8 q)) := (Chg.refl (fun z => z = a) w).setCell (p := ⟨a, 1, none⟩) (.inl rfl) _
  subst hq
  exact ⟨⟨h.hr, blk_setk (l := [v, .int .u8 (l.h : Int), .int .i64 (l.r : Int), .int .u32 (l.t : Int), .int .u32 (R : Int)]) h.blk 1 _, ownsRow_keep h.own c1 (fun g e e2 => h.ne (by rw [← e2]; exact e))⟩, c1⟩
theorem En.setN {w : World} {B a R : Nat} {v : Value} {l : Rc.Lo} (h : En w B a v l R) (x : Nat) (q : Int) (hq : q = (x : Int)) : En (w.setCell ⟨a, 2, none⟩ (.int .i64 q)) B a v ⟨l.s, l.h, x, l.t⟩ R ∧ Chg (fun z => z = a) w (w.setCell ⟨a, 2, none⟩ (.int .i64 q)) := by
  have c1 : Chg (fun z => z = a) w (w.setCell ⟨a, 2, none⟩ (.int .i64 q)) := (Chg.refl (fun z => z = a) w).setCell (p := ⟨a, 2, none⟩) (.inl rfl) _
  subst hq
  exact ⟨⟨h.hr, blk_setk (l := [v, .int .u8 (l.h : Int), .int .i64 (l.r : Int), .int .u32 (l.t : Int), .int .u32 (R : Int)]) h.blk 2 _, ownsRow_keep h.own c1 (fun g e e2 => h.ne (by rw [← e2]; exact e))⟩, c1⟩
theorem En.setT {w : World} {B a R : Nat} {v : Value} {l : Rc.Lo} (h : En w B a v l R) (x : Nat) (q : Int) (hq : q = (x : Int)) : En (w.setCell ⟨a, 3, none⟩ (.int .u32 q)) B a v ⟨l.s, l.h, l.r, x⟩ R ∧ Chg (fun z => z = a) w (w.setCell ⟨a, 3, none⟩ (.int .u32 q)) := by
  have c1 : Chg (fun z => z = a) w (w.setCell ⟨a, 3, none⟩ (.int .u32 q)) := (Chg.refl (fun z => z = a) w).setCell (p := ⟨a, 3, none⟩) (.inl rfl) _
  subst hq
  exact ⟨⟨h.hr, blk_setk (l := [v, .int .u8 (l.h : Int), .int .i64 (l.r : Int), .int .u32 (l.t : Int), .int .u32 (R : Int)]) h.blk 3 _, ownsRow_keep h.own c1 (fun g e e2 => h.ne (by rw [← e2]; exact e))⟩, c1⟩
theorem En.setR {w : World} {B a R : Nat} {v : Value} {l : Rc.Lo} (h : En w B a v l R) (x : Nat) (q : Int) (hq : q = (x : Int)) : En (w.setCell ⟨a, 4, none⟩ (.int .u32 q)) B a v l x ∧ Chg (fun z => z = a) w (w.setCell ⟨a, 4, none⟩ (.int .u32 q)) := by
  have c1 : Chg (fun z => z = a) w (w.setCell ⟨a, 4, none⟩ (.int .u32 q)) := (Chg.refl (fun z => z = a) w).setCell (p := ⟨a, 4, none⟩) (.inl rfl) _
  subst hq
  exact ⟨⟨h.hr, blk_setk (l := [v, .int .u8 (l.h : Int), .int .i64 (l.r : Int), .int .u32 (l.t : Int), .int .u32 (R : Int)]) h.blk 4 _, ownsRow_keep h.own c1 (fun g e e2 => h.ne (by rw [← e2]; exact e))⟩, c1⟩

/-- Behind an append to the settled digits: the encoder is still there, and the new list is written. -/
theorem En.pushed {w w1 w2 : World} {B a R x : Nat} {v v2 : Value} {l : Rc.Lo} (h : En w B a v l R) (hc : Chg (fun _ => False) w w1) (ho : w2.ownsRow B 5 1 v2 (l.s.length + 1) (ins .u8 (nums l.s) ++ [.int .u8 (x : Int)])) (hg : w1.grownBy w2 v.ownBlock) :
    w2.heap[a]? = some (.cells #[v, .int .u8 (l.h : Int), .int .i64 (l.r : Int), .int .u32 (l.t : Int), .int .u32 (R : Int)] 75 (0, 0)) ∧ En (w2.setCell ⟨a, 0, none⟩ v2) B a v2 ⟨l.s ++ [x], l.h, l.r, l.t⟩ R ∧ Chg (Foot a v) w (w2.setCell ⟨a, 0, none⟩ v2) := by
  have h1 := h.new hc
  have c3 : Chg (fun z => v.ownBlock = some z) w1 w2 := (Chg.refl _ w1).grown hg (fun k e => .inl e)
  have b3 := blk_keep h1.blk c3 h1.ne
  have c4 : Chg (fun z => z = a) w2 (w2.setCell ⟨a, 0, none⟩ v2) := (Chg.refl (fun z => z = a) w2).setCell (p := ⟨a, 0, none⟩) (.inl rfl) _
  have b4 := blk_setk (l := [v, .int .u8 (l.h : Int), .int .i64 (l.r : Int), .int .u32 (l.t : Int), .int .u32 (R : Int)]) b3 0 v2
  refine ⟨b3, ⟨h.hr, b4, ?_⟩, ?_⟩
  · have e : ins .u8 (nums (l.s ++ [x])) = ins .u8 (nums l.s) ++ [.int .u8 (x : Int)] := by simp [ins, nums]
    show World.ownsRow _ _ _ _ _ (l.s ++ [x]).length _
    rw [List.length_append, e]
    refine ownsRow_keep ho c4 (fun g e e2 => ?_)
    obtain ⟨cur, hcur⟩ := owns_blk ho e
    rw [e2] at hcur
    exact ty_ne b3 hcur (by decide)
  · exact (((hc.mono (T := Foot a v) (fun _ f => f.elim)).trans c3 (fun _ e => .inl (.inr e))).trans c4 (fun _ e => .inl (.inl e)))
theorem moved_from {w w1 : World} {v v2 : Value} (hs : w.heap.size ≤ w1.heap.size) (hm : Moved w1 v v2) : Moved w v v2 := fun g e => by
  rcases hm g e with e | e
  · exact .inl e
  · exact .inr (by omega)

set_option maxHeartbeats 1000000 in
set_option maxRecDepth 100000 in
theorem rcnew_any (w : World) : Calls Try.prog 10 #[] w fun e w' => ∃ a, e = .returned (.pointer (some ⟨a, 0, none⟩)) ∧ w.heap.size ≤ a ∧ En w' w.heap.size a (.slice none 0 0) Rc.begin_ 4294967295 ∧ Chg (fun _ => False) w w' := by
  go_enter Try.func10, Try.ntmps10
  go_wp2
  go_ret
  exact ⟨_, rfl, Nat.le_refl _, ⟨Nat.le_refl _, heap_alloc_last w _, World.ownsRow_nil _ _ _ _⟩, chg_one w _⟩
end Go.Proofs.Ytibgjpifmpljkaa

/- A region that draws its order; some of its operations (calls, appends), each behind the one before, turn memory: a state goes on with each of them ('J'); all others only read: gone through once an operation; of no statement by itself. -/
namespace Go.Proofs.Ytibgjpifmpljkaa
open Go.RowKit

section
variable {P : Program} {ops : Array Oper} {Q : Exit → Act → World → Prop} {G : Nat → Value → Prop} {J : Nat → (Nat → Value) → World → Prop} {mk : (Nat → Value) → Array Value}

/-- Facts of slots, by a list. -/
def lookG (l : List (Nat × Value)) (t : Nat) (v : Value) : Prop := match l.lookup t with | some x => v = x | none => True

/-- Each of these operations waits for the one before. -/
def chainOk (ops : Array Oper) : List Nat → Bool
  | a :: b :: r => ((ops[b]?).map fun o => o.after.toList.any fun e => e.on == a && Region.binds .any e).getD false && chainOk ops (b :: r)
  | _ => true

theorem chain_wait : ∀ {ms : List Nat}, chainOk ops ms = true → ∀ k (h : k + 1 < ms.length), ∃ o e, ops[ms[k + 1]]? = some o ∧ e ∈ o.after ∧ e.on = ms[k] ∧ Region.binds .any e = true
  | [], _, k, h => by simp at h
  | [a], _, k, h => by simp at h
  | a :: b :: r, hc, 0, h => by
    simp only [chainOk, Bool.and_eq_true] at hc
    cases ho : ops[b]? with
    | none => simp [ho] at hc
    | some o =>
      simp only [ho, Option.map_some, Option.getD_some] at hc
      obtain ⟨e, he, h3⟩ := List.any_eq_true.1 hc.1
      simp only [Bool.and_eq_true, beq_iff_eq] at h3
      exact ⟨o, e, by simpa using ho, by simpa using he, by simpa using h3.1, h3.2⟩
  | a :: b :: r, hc, k + 1, h => by
    simp only [chainOk, Bool.and_eq_true] at hc
    have := chain_wait hc.2 k (by simpa using h)
    simpa using this

/-- An operation that only reads: in every state it gives its slot a value with its own fact. -/
def StepR (P : Program) (ops : Array Oper) (Q : Exit → Act → World → Prop) (mk : (Nat → Value) → Array Value) (G : Nat → Value → Prop) (J : Nat → (Nat → Value) → World → Prop) (o : Oper) : Prop :=
  ∀ (q : Nat) (u : Nat → Value) (w : World), J q u w → Deps ops (fun t v _ => G t v) u w o.after.toList →
      ∀ K : Act → World → Prop, Shut (∀ v, G (o.dst.getD 0) v → K ((⟨mk u, []⟩ : Act).put o.dst v) w) →
      if Region.wanted o (yielded ops (mk u)) = true then Oper.wp P o ⟨mk u, []⟩ w K Q else K ((⟨mk u, []⟩ : Act).put o.dst undef) w
/-- An operation that turns memory: from the state q to the next. -/
def StepW (P : Program) (ops : Array Oper) (Q : Exit → Act → World → Prop) (mk : (Nat → Value) → Array Value) (G : Nat → Value → Prop) (J : Nat → (Nat → Value) → World → Prop) (q : Nat) (o : Oper) : Prop :=
  ∀ (u : Nat → Value) (w : World), J q u w → Deps ops (fun t v _ => G t v) u w o.after.toList →
      ∀ K : Act → World → Prop, Shut (∀ v w', J (q + 1) (upd u (o.dst.getD 0) v) w' → G (o.dst.getD 0) v → K ((⟨mk u, []⟩ : Act).put o.dst v) w') →
      if Region.wanted o (yielded ops (mk u)) = true then Oper.wp P o ⟨mk u, []⟩ w K Q else K ((⟨mk u, []⟩ : Act).put o.dst undef) w
/-- The operations from number i on, those of ms turning memory. -/
def StepsP (P : Program) (ops : Array Oper) (Q : Exit → Act → World → Prop) (mk : (Nat → Value) → Array Value) (G : Nat → Value → Prop) (J : Nat → (Nat → Value) → World → Prop) (ms : List Nat) : Nat → List Oper → Prop
  | _, [] => True
  | i, o :: r => (match ms.idxOf? i with | none => StepR P ops Q mk G J o | some q => StepW P ops Q mk G J q o) ∧ StepsP P ops Q mk G J ms (i + 1) r

theorem stepsP_at {ms : List Nat} : ∀ {l : List Oper} {b : Nat}, StepsP P ops Q mk G J ms b l → ∀ k o, l[k]? = some o → (match ms.idxOf? (b + k) with | none => StepR P ops Q mk G J o | some q => StepW P ops Q mk G J q o)
  | [], _, _, k, o, h => by simp at h
  | o' :: l, b, hs, 0, o, h => by
    simp only [List.getElem?_cons_zero, Option.some.injEq] at h
    subst h
    exact hs.1
  | o' :: l, b, hs, k + 1, o, h => by
    rw [List.getElem?_cons_succ] at h
    have := stepsP_at hs.2 k o h
    rw [show b + (k + 1) = b + 1 + k by omega]
    exact this

theorem phase_go (front : List Oper) (last : Oper) (ms : List Nat) (hops : ops.toList = front ++ [last]) (ht : tidyL ops front.length = true) (hch : chainOk ops ms = true) (hmn : ms.all (fun m => decide (m < front.length)) = true) (hnd : ms.Nodup) (hp : Puts mk front)
    (hJ : ∀ q u u' w, (∀ m ∈ ms, u (slotOf ops m) = u' (slotOf ops m)) → J q u w → J q u' w)
    (hs : StepsP P ops Q mk G J ms 0 front)
    (hend : ∀ u w, J ms.length u w → Alls (fun t v _ => G t v) u w front → ∀ K : Act → World → Prop, Shut (∀ a w', Q .normal a w' → K a w') →
      if Region.wanted last (yielded ops (mk u)) = true then Oper.wp P last ⟨mk u, []⟩ w K Q else K ((⟨mk u, []⟩ : Act).put last.dst undef) w) :
    ∀ (fuel : Nat) (listed : Array Bool) (u : Nat → Value) (w : World), listed.size = ops.size → listed.toList.countP (fun b => !b) ≤ fuel →
      listed.getD front.length false = false →
      (∀ i o e, listed.getD i false = true → ops[i]? = some o → e ∈ o.after → Region.binds .any e = true → listed.getD e.on false = true) →
      (∃ q, q ≤ ms.length ∧ (∀ k (h : k < ms.length), k < q → listed.getD ms[k] false = true) ∧ (∀ k (h : k < ms.length), q ≤ k → listed.getD ms[k] false = false) ∧ J q u w) →
      (∀ i, i < front.length → listed.getD i false = true → G (slotOf ops i) (u (slotOf ops i))) → wpAny P .any ops Q fuel listed ⟨mk u, []⟩ w := by
  have hsz0 : ops.size = front.length + 1 := by
    have := congrArg List.length hops
    simpa using this
  have hmlt : ∀ k (h : k < ms.length), ms[k] < front.length := fun k h => by
    have := List.all_eq_true.1 hmn ms[k] (List.getElem_mem h)
    simpa using this
  have hfr : ∀ i, i < front.length → ∃ o, ops[i]? = some o ∧ o ∈ front := by
    intro i hi
    refine ⟨front[i], ?_, List.getElem_mem _⟩
    rw [← Array.getElem?_toList, hops, List.getElem?_append_left hi, List.getElem?_eq_getElem hi]
  have hla : ops[front.length]? = some last := by
    rw [← Array.getElem?_toList, hops]
    simp
  have hno : ∀ (listed : Array Bool), listed.size = ops.size → listed.getD front.length false = false → Region.ready .any ops listed = [] → False := by
    intro listed hsz hl hr
    have hall : ∀ i, i < ops.size → listed.getD i false = true := by
      intro i
      induction i using Nat.strongRecOn with
      | ind i ih =>
        intro hi
        cases hl : listed.getD i false with
        | true => rfl
        | false =>
          exfalso
          have : i ∈ Region.ready .any ops listed := by
            refine mem_ready.2 ⟨?_, ops[i], Array.getElem?_eq_getElem hi, fun e he _ => ?_⟩
            · have hi' : i < listed.size := by omega
              simpa [hi'] using hl
            · have := tidyL_after ht (by omega) (Array.getElem?_eq_getElem hi) he
              exact ih _ this (by omega)
          rw [hr] at this
          cases this
    rw [hall _ (by omega)] at hl
    cases hl
  intro fuel
  induction fuel with
  | zero =>
    intro listed u w hsz hn hL hC hq hF
    exfalso
    have hjs : front.length < listed.size := by omega
    have h1 : listed[front.length] = false := by simpa [hjs] using hL
    have h2 : 0 < listed.toList.countP (fun b => !b) := List.countP_pos_iff.2 ⟨false, by rw [← h1]; simp, rfl⟩
    omega
  | succ fuel ih =>
    intro listed u w hsz hn hL hC hq hF
    refine ⟨fun hr => (hno listed hsz hL hr).elim, fun i hi => ?_⟩
    obtain ⟨h0, o, ho, hall⟩ := mem_ready.1 hi
    have hio : i < ops.size := (Array.getElem?_eq_some_iff.1 ho).1
    have his : i < listed.size := by omega
    have hl0 : listed[i] = false := by simpa [his] using h0
    have hli : listed.getD i false = false := by simpa [his] using hl0
    have hcnt : (listed.setIfInBounds i true).toList.countP (fun b => !b) ≤ fuel := by
      have : (listed.setIfInBounds i true).toList = listed.toList.set i true := by simp
      rw [this, List.countP_set (by simpa using his)]
      have h2 : 0 < listed.toList.countP (fun b => !b) := List.countP_pos_iff.2 ⟨false, by rw [← hl0]; simp, rfl⟩
      have h3 : (!(listed.toList[i]'(by simpa using his))) = true := by simp [hl0]
      rw [if_pos h3]
      simp only [Bool.not_true, Bool.false_eq_true, if_false]
      omega
    have hC2 : i < front.length → ∀ j oj e, (listed.setIfInBounds i true).getD j false = true → ops[j]? = some oj → e ∈ oj.after → Region.binds .any e = true → (listed.setIfInBounds i true).getD e.on false = true := by
      intro hin j oj e hlj hoj he hb
      by_cases ej : j = i
      · subst ej
        obtain rfl : oj = o := Option.some.inj (hoj.symm.trans ho)
        have := tidyL_after ht (by omega) ho he
        rw [getD_set_ne false (by omega)]
        exact hall e he hb
      · rw [getD_set_ne false (Ne.symm ej)] at hlj
        have := hC j oj e hlj hoj he hb
        by_cases ee : e.on = i
        · rw [ee]
          simp [his]
        · rw [getD_set_ne false (Ne.symm ee)]
          exact this
    by_cases hin : i < front.length
    · obtain ⟨o', ho', hmem⟩ := hfr i hin
      obtain rfl : o' = o := Option.some.inj (ho'.symm.trans ho)
      obtain ⟨t, hd, hput⟩ := puts_at hp o' hmem
      have hslot : slotOf ops i = t := slotOf_eq ho hd
      have e1 : ∀ v, (⟨mk u, []⟩ : Act).put (some t) v = ⟨mk (upd u t v), []⟩ := fun v => by
        show Act.mk ((mk u).setIfInBounds t v) [] = _
        rw [hput]
      have hne : ∀ j, j < front.length → j ≠ i → slotOf ops j ≠ t := fun j hj e h => e (tidyL_slot ht hj hin (by rw [h, hslot]))
      obtain ⟨q, hq0, hq1, hq2, hj⟩ := hq
      have hfi : front[i]? = some o' := by
        rw [← Array.getElem?_toList, hops, List.getElem?_append_left hin] at ho
        exact ho
      have hstep := stepsP_at hs i o' hfi
      rw [Nat.zero_add] at hstep
      cases hx : ms.idxOf? i with
      | none =>
        rw [hx] at hstep
        have hnm : i ∉ ms := by simpa using hx
        refine wpOp_step ho (fun K hK => hstep q u w hj (deps_of _ fun e he hb => ?_) K ?_)
        · have he' : e ∈ o'.after := by simpa using he
          have := tidyL_after ht (by omega) ho he'
          exact hF e.on (by omega) (hall e he' hb)
        · intro v hGv
          refine hK _ _ ?_
          rw [hd] at hGv ⊢
          rw [e1]
          refine ih _ _ w (by simpa using hsz) hcnt (by rw [getD_set_ne false (by omega)]; exact hL) (hC2 hin) ⟨q, hq0, fun k h hk => ?_, fun k h hk => ?_, hJ q u _ w (fun m hm => ?_) hj⟩ (fun j hj2 hlj => ?_)
          · have hne2 : i ≠ ms[k] := fun e => hnm (e ▸ List.getElem_mem h)
            rw [getD_set_ne false hne2]
            exact hq1 k h hk
          · have hne2 : i ≠ ms[k] := fun e => hnm (e ▸ List.getElem_mem h)
            rw [getD_set_ne false hne2]
            exact hq2 k h hk
          · obtain ⟨k, hk, rfl⟩ := List.mem_iff_getElem.1 hm
            have := hne ms[k] (hmlt k hk) (fun e => hnm (e ▸ List.getElem_mem hk))
            simp [upd, this]
          · by_cases e : j = i
            · subst e
              rw [hslot]
              simpa [upd] using hGv
            · have hlj' : listed.getD j false = true := by
                rw [getD_set_ne false (Ne.symm e)] at hlj
                exact hlj
              simpa [upd, hne j hj2 e] using hF j hj2 hlj'
      | some k =>
        rw [hx] at hstep
        obtain ⟨hk, hki⟩ : ∃ h : k < ms.length, ms[k] = i := by
          have := List.idxOf?_eq_some_iff.1 hx
          obtain ⟨h1, h2, _⟩ := this
          exact ⟨h1, by simpa using h2⟩
        have hkq : k = q := by
          have h1 : q ≤ k := by
            by_cases h : k < q
            · have := hq1 k hk h
              rw [hki, hli] at this
              cases this
            · omega
          by_cases h2 : q < k
          · exfalso
            obtain ⟨d, rfl⟩ : ∃ d, k = d + 1 := ⟨k - 1, by omega⟩
            obtain ⟨o2, e2, ho2, he2, hon, hb2⟩ := chain_wait hch d hk
            rw [hki] at ho2
            obtain rfl : o2 = o' := Option.some.inj (ho2.symm.trans ho)
            have h3 := hall e2 he2 hb2
            rw [hon] at h3
            have h4 := hq2 d (by omega) (by omega)
            rw [h3] at h4
            cases h4
          · omega
        subst hkq
        refine wpOp_step ho (fun K hK => hstep u w hj (deps_of _ fun e he hb => ?_) K ?_)
        · have he' : e ∈ o'.after := by simpa using he
          have := tidyL_after ht (by omega) ho he'
          exact hF e.on (by omega) (hall e he' hb)
        · intro v w' hj2 hGv
          refine hK _ _ ?_
          rw [hd] at hGv hj2 ⊢
          rw [e1]
          have hdis : ∀ k' (h : k' < ms.length), k' ≠ k → i ≠ ms[k'] := fun k' h hne3 e => by
            rw [← hki] at e
            exact hne3 ((List.getElem_inj hnd).1 e.symm)
          refine ih _ _ w' (by simpa using hsz) hcnt (by rw [getD_set_ne false (by omega)]; exact hL) (hC2 hin) ⟨k + 1, hk, fun k' h hk' => ?_, fun k' h hk' => ?_, hj2⟩ (fun j hj3 hlj => ?_)
          · by_cases e : k' = k
            · subst e
              rw [hki]
              simp [his]
            · rw [getD_set_ne false (hdis k' h e)]
              exact hq1 k' h (by omega)
          · rw [getD_set_ne false (hdis k' h (by omega))]
            exact hq2 k' h (by omega)
          · by_cases e : j = i
            · subst e
              rw [hslot]
              simpa [upd] using hGv
            · have hlj' : listed.getD j false = true := by
                rw [getD_set_ne false (Ne.symm e)] at hlj
                exact hlj
              simpa [upd, hne j hj3 e] using hF j hj3 hlj'
    · obtain rfl : i = front.length := by omega
      obtain rfl : last = o := Option.some.inj (hla.symm.trans ho)
      have hall2 : ∀ d j, j + d + 1 = front.length → listed.getD j false = true := by
        intro d
        induction d using Nat.strongRecOn with
        | ind d ihd =>
          intro j hj
          obtain ⟨k, o, e, hjk, hkn, hok, he, heo, hb⟩ := tidyL_wait ht (show j < front.length by omega)
          by_cases hk : k = front.length
          · subst hk
            obtain rfl : o = last := Option.some.inj (hok.symm.trans ho)
            have := hall e he hb
            rwa [heo] at this
          · have h1 := ihd (front.length - k - 1) (by omega) k (by omega)
            have := hC k o e h1 hok he hb
            rwa [heo] at this
      obtain ⟨q, hq0, hq1, hq2, hj⟩ := hq
      obtain rfl : q = ms.length := by
        by_cases h : q < ms.length
        · have h1 := hq2 q h (Nat.le_refl _)
          have h2 := hmlt q h
          rw [hall2 (front.length - ms[q] - 1) ms[q] (by omega)] at h1
          cases h1
        · omega
      have hA : Alls (fun t v _ => G t v) u w front := by
        refine alls_of _ fun o hmo => ?_
        obtain ⟨j, hj2, rfl⟩ := List.mem_iff_getElem.1 hmo
        obtain ⟨t, hd, _⟩ := puts_at hp _ hmo
        have hoj : ops[j]? = some front[j] := by rw [← Array.getElem?_toList, hops, List.getElem?_append_left hj2, List.getElem?_eq_getElem hj2]
        have := hF j hj2 (hall2 (front.length - j - 1) j (by omega))
        rw [slotOf_eq hoj hd] at this
        simpa [hd] using this
      refine wpOp_step ho (fun K hK => hend u w hj hA K (fun a w' hq => hK _ _ ?_))
      have hr : Region.ready .any ops (listed.setIfInBounds front.length true) = [] := by
        cases h : Region.ready .any ops (listed.setIfInBounds front.length true) with
        | nil => rfl
        | cons j l =>
          exfalso
          have hj : j ∈ Region.ready .any ops (listed.setIfInBounds front.length true) := by rw [h]; exact List.mem_cons_self
          obtain ⟨h0, o, ho, _⟩ := mem_ready.1 hj
          have hjs : j < ops.size := (Array.getElem?_eq_some_iff.1 ho).1
          by_cases e : j = front.length
          · subst e
            simp [his] at h0
          · have := hall2 (front.length - j - 1) j (by omega)
            have h1 : (listed.setIfInBounds front.length true).getD j false = true := by rw [getD_set_ne false (Ne.symm e)]; exact this
            have hj2 : j < (listed.setIfInBounds front.length true).size := by simp; omega
            rw [Array.getD_eq_getD_getElem?, Array.getElem?_eq_getElem hj2] at h1
            simp only [Option.getD_some] at h1
            rw [Array.getD_eq_getD_getElem?, Array.getElem?_eq_getElem hj2] at h0
            simp only [Option.getD_some] at h0
            rw [h1] at h0
            cases h0
      cases fuel with
      | zero => exact ⟨hr, hq⟩
      | succ f => exact ⟨fun _ => hq, fun i hi => by rw [hr] at hi; cases hi⟩

/-- THE LAW: a region that draws its order, some of whose operations turn memory, each behind the one before; the last operation is the prover's. -/
theorem wp_region_phase {id : Nat} {a : Act} {w0 : World} (mk : (Nat → Value) → Array Value) (G : Nat → Value → Prop) (J : Nat → (Nat → Value) → World → Prop) (ms : List Nat) (u0 : Nat → Value) (ha : a = ⟨mk u0, []⟩) (hm : P.follows .mixedOrders = true)
    (n : Nat) (last : Oper) (hn : ops.size = n + 1) (hl : ops[n]? = some last) (ht : tidyL ops n = true) (hch : chainOk ops ms = true) (hmn : ms.all (fun m => decide (m < n)) = true) (hnd : ms.Nodup) (hp : Puts mk (ops.toList.take n))
    (hJ : ∀ q u u' w, (∀ m ∈ ms, u (slotOf ops m) = u' (slotOf ops m)) → J q u w → J q u' w) (hJ0 : J 0 u0 w0.drew)
    (hs : StepsP P ops Q mk G J ms 0 (ops.toList.take n))
    (hend : ∀ u w, J ms.length u w → Alls (fun t v _ => G t v) u w (ops.toList.take n) → ∀ K : Act → World → Prop, Shut (∀ a w', Q .normal a w' → K a w') →
      if Region.wanted last (yielded ops (mk u)) = true then Oper.wp P last ⟨mk u, []⟩ w K Q else K ((⟨mk u, []⟩ : Act).put last.dst undef) w) : (Code.region id ops true).wp P Q a w0 := by
  subst ha
  have hlen : (ops.toList.take n).length = n := by simp; omega
  have hops : ops.toList = ops.toList.take n ++ [last] := by
    have h1 : ops.toList[n]? = some last := by simpa using hl
    obtain ⟨h2, h3⟩ := List.getElem?_eq_some_iff.1 h1
    have h4 := List.take_succ_eq_append_getElem h2
    rw [h3] at h4
    rw [← h4, List.take_of_length_le (by simp; omega)]
  refine wp_region_any hm (phase_go (ops.toList.take n) last ms hops (by rw [hlen]; exact ht) hch (by rw [hlen]; exact hmn) hnd hp hJ hs hend _ _ u0 _ (by simp) ?_ (rep_getD _ _) ?_ ⟨0, Nat.zero_le _, fun k _ hk => by omega, fun k _ _ => rep_getD _ _, hJ0⟩ ?_)
  · have := List.countP_le_length (p := fun b => !b) (l := (Array.replicate ops.size false).toList)
    simpa using this
  · intro i o e h
    rw [rep_getD] at h
    cases h
  · intro i hi h
    rw [rep_getD] at h
    cases h
end
end Go.Proofs.Ytibgjpifmpljkaa

/- The contracts of carry and settle; of no statement by themselves. -/
namespace Go.Proofs.Ytibgjpifmpljkaa
open Go.RowKit
set_option linter.unusedVariables false

/-- A digit is appended: before, behind the list of one, behind the append. -/
def PushJ (W : World) (B : Nat) (v : Value) (n : Nat) (xs : List Value) (x : Nat) (y z : Value) : Nat → World → Prop
  | 0, w => Chg (fun _ => False) W w
  | 1, w => Chg (fun _ => False) W w ∧ ∃ c, y = .slice (some ⟨c, 0, none⟩) 1 1 ∧ From w (some ⟨c, 0, none⟩) 1 1 1 [.int .u8 (x : Int)]
  | _, w => ∃ w1, Chg (fun _ => False) W w1 ∧ w.ownsRow B 5 1 z (n + 1) (xs ++ [.int .u8 (x : Int)]) ∧ w1.grownBy w v.ownBlock ∧ Moved w1 v z

/-- The low end behind a carry's rounds that are left. -/
def fin (s : List Nat) (x m t : Nat) : Rc.Lo := if m = 0 then ⟨s, x, 0, t⟩ else ⟨s ++ x :: List.replicate (m - 1) 0, 0, 0, t⟩
theorem fin_zero (s : List Nat) (x t : Nat) : fin s x 0 t = ⟨s, x, 0, t⟩ := rfl
theorem fin_succ (s : List Nat) (x m t : Nat) : fin (s ++ [x]) 0 m t = fin s x (m + 1) t := by
  unfold fin
  cases m with
  | zero => simp
  | succ m => simp [List.replicate_succ]
theorem fin_carry (s : List Nat) (d r t : Nat) : fin s (d + 1) r t = Rc.carry s d r t := by
  unfold fin Rc.carry
  rfl
theorem one8 (x : Nat) : ∀ u ∈ [Value.int .u8 (x : Int)], u.oneCell' = true := fun u hu => by simp at hu; subst hu; rfl
theorem foot_step {w w1 w2 : World} {a : Nat} {v v1 v2 : Value} (h : Chg (Foot a v) w w1) (hm : Moved w v v1) (h2 : Chg (Foot a v1) w1 w2) (hm2 : Moved w1 v1 v2) : Chg (Foot a v) w w2 ∧ Moved w v v2 := ⟨h.trans h2 (fun i e => hm.foot a i e), hm.trans h.size hm2⟩

set_option maxHeartbeats 2000000 in
set_option maxRecDepth 100000 in
theorem carry_any (B a : Nat) (v : Value) (s : List Nat) (d r t R : Nat) (w0 : World) (h : En w0 B a v ⟨s, d, r, t⟩ R) (hh : d < 255) (hl : s.length + r ≤ 140737488355328) (hB : B ≤ w0.heap.size) :
    Calls Try.prog 94 #[.pointer (some ⟨a, 0, none⟩)] w0 fun e w' => e = .returned (.tuple #[]) ∧ ∃ v', En w' B a v' (Rc.carry s d r t) R ∧ Chg (Foot a v) w0 w' ∧ Moved w0 v v' := by
  obtain ⟨i0, hi, hz0, hz1, hz2⟩ := info_parts infoU8
  have k1 : w0.cell? ⟨a, 1, none⟩ = some (.int .u8 (d : Int)) := (cells5 h.blk).2.1
  have f1 := (cells5 h.blk).2.2.2.2.2 1
  obtain ⟨hS, hC⟩ := h.setH (d + 1) ((d : Int) + 1) (by omega)
  have HS : Hid (En (w0.setCell ⟨a, 1, none⟩ (.int .u8 ((d : Int) + 1))) B a v ⟨s, d + 1, r, t⟩ R) := hS
  have HC : Hid (Chg (Foot a v) w0 (w0.setCell ⟨a, 1, none⟩ (.int .u8 ((d : Int) + 1)))) := hC.mono (fun _ e => .inl (.inl e))
  clear h hS hC
  go_enter Try.func94, Try.ntmps94
  go_wp2_with fail
  go_loopw [9] (fun _ wr => ∃ (s' : List Nat) (x m : Nat) (v' : Value), x < 256 ∧ s'.length + m = s.length + r ∧ En wr B a v' ⟨s', x, m, t⟩ R ∧ Hid (fin s' x m t = Rc.carry s d r t) ∧ Chg (Foot a v) w0 wr ∧ Moved w0 v v') (fun _ wr => match wr.cell? ⟨a, 2, none⟩ with | some (.int _ q) => q.toNat | _ => 0)
  case atStart => exact ⟨s, d + 1, r, v, by omega, rfl, HS.out, fin_carry s d r t, HC.out, Moved.refl _ _⟩
  case round =>
    clear HS HC k1 f1
    obtain ⟨s', x, m, v', hx, hlen, hE, HF, hC, hM⟩ := hrel
    have hB2 : B ≤ wr.heap.size := Nat.le_trans hB hC.size
    have HX : Hid (Chg (Foot a v) w0 wr ∧ Moved w0 v v') := ⟨hC, hM⟩
    clear hC hM
    cases m with
    | zero =>
      have k2 : wr.cell? ⟨a, 2, none⟩ = some (.int .i64 0) := (cells5 hE.blk).2.2.1
      have HE : Hid (En wr B a v' (Rc.carry s d r t) R) := by
        have h1 := HF.out
        rw [fin_zero] at h1
        show En wr B a v' (Rc.carry s d r t) R
        rw [← h1]
        exact hE
      clear hE HF
      go_wp2
      go_end0
      exact ⟨rfl, v', HE.out, HX.out.1, HX.out.2⟩
    | succ m =>
      obtain ⟨ad, cap, hv, _⟩ := own_any hE.own
      obtain ⟨k0, k1, k2, k3, k4, kf⟩ := cells5 hE.blk
      have hv2 : v' = .slice ad (s').length cap := hv
      have HV : Hid (v' = .slice ad (s').length cap) := hv2
      rw [hv2] at k0
      have hown : wr.ownsRow B 5 1 (.slice ad (s').length cap) (s').length (ins .u8 (nums (s'))) := by rw [← hv2]; exact hE.own
      have HPB : Hid (∀ w1 w2 v2, Chg (fun _ => False) wr w1 → w2.ownsRow B 5 1 v2 ((s').length + 1) (ins .u8 (nums (s')) ++ [.int .u8 ((x : Nat) : Int)]) → w1.grownBy w2 (Value.slice ad (s').length cap).ownBlock → w2.heap[a]? = some (.cells #[.slice ad (s').length cap, .int .u8 ((x : Nat) : Int), .int .i64 ((m + 1 : Nat) : Int), .int .u32 ((t : Nat) : Int), .int .u32 (R : Int)] 75 (0, 0)) ∧ En (w2.setCell ⟨a, 0, none⟩ v2) B a v2 ⟨s' ++ [x], x, m + 1, t⟩ R ∧ Chg (Foot a v') wr (w2.setCell ⟨a, 0, none⟩ v2)) := fun w1 w2 v2 hc ho hg => by
        rw [← hv2] at hg ⊢
        exact hE.pushed hc ho hg
      obtain ⟨z, hz⟩ : ∃ z : Int, z = ((m + 1 : Nat) : Int) := ⟨_, rfl⟩
      have HZ : Hid (z = ((m + 1 : Nat) : Int)) := hz
      have z1 : 0 < z := by omega
      have z2 : z ≤ 140737488355328 := by omega
      have k2' : wr.cell? ⟨a, 2, none⟩ = some (.int .i64 z) := by rw [hz]; exact k2
      have HONE : Hid (∀ u ∈ [Value.int .u8 (x : Int)], u.oneCell' = true) := one8 x
      clear k2 k3 k4 kf hz hv hv2 hE
      obtain ⟨n, hn⟩ : ∃ n, n = s'.length := ⟨_, rfl⟩
      obtain ⟨xs, hxs⟩ : ∃ xs, xs = ins .u8 (nums s') := ⟨_, rfl⟩
      rw [← hn, ← hxs] at hown
      rw [← hn] at k0
      have HN : Hid (n = s'.length) := hn
      have HXS : Hid (xs = ins .u8 (nums s')) := hxs
      have HOWN : Hid (wr.ownsRow B 5 1 (.slice ad n cap) n xs) := hown
      have HLEN : Hid (n + 1 ≤ 140737488355328) := by show n + 1 ≤ _; omega
      have HBB : Hid (B ≤ wr.heap.size) := hB2
      have HPU : Hid (∀ w1 w2 v2, Chg (fun _ => False) wr w1 → w2.ownsRow B 5 1 v2 (n + 1) (xs ++ [.int .u8 (x : Int)]) → w1.grownBy w2 (Value.slice ad n cap).ownBlock → w2.heap[a]? = some (.cells #[.slice ad n cap, .int .u8 (x : Int), .int .i64 z, .int .u32 (t : Int), .int .u32 (R : Int)] 75 (0, 0))) := fun w1 w2 v2 hc ho hg => by
        rw [hn, hxs] at ho
        rw [hn] at hg ⊢
        have hz := HZ.out
        rw [hz]
        exact (HPB.out w1 w2 v2 hc ho hg).1
      have HPW : Hid (∀ w1 w2 v2, Chg (fun _ => False) wr w1 → w2.ownsRow B 5 1 v2 (n + 1) (xs ++ [.int .u8 (x : Int)]) → w1.grownBy w2 (Value.slice ad n cap).ownBlock → Hid (En (w2.setCell ⟨a, 0, none⟩ v2) B a v2 ⟨s' ++ [x], x, m + 1, t⟩ R ∧ Chg (Foot a (.slice ad n cap)) wr (w2.setCell ⟨a, 0, none⟩ v2))) := fun w1 w2 v2 hc ho hg => by
        rw [hn, hxs] at ho
        rw [hn] at hg ⊢
        have h3 := (HPB.out w1 w2 v2 hc ho hg).2
        rw [HV.out] at h3
        exact h3
      have HV2 : Hid (v' = .slice ad n cap) := by show v' = _; rw [hn]; exact HV.out
      clear hown hn hxs HPB HV
      go_wp2_with fail
      refine wp_region_phase (mk := fun u => #[_, _, _, _, _, _, _, _, _, _, _, _, _, _, _, _, _, _, _, _, _, u 21, u 22, u 23, u 24, u 25, u 26, u 27, u 28, u 29, u 30, u 31, u 32, u 33, _, _, _]) (G := lookG [(21, .pointer (some ⟨a, 0, none⟩)), (22, .pointer (some ⟨a, 0, none⟩)), (23, .pointer (some ⟨a, 0, none⟩)), (24, .pointer (some ⟨a, 0, none⟩)), (25, .slice ad n cap), (26, .pointer (some ⟨a, 0, none⟩)), (27, .pointer (some ⟨a, 0, none⟩)), (28, .pointer (some ⟨a, 1, none⟩)), (29, .int .u8 (x : Int)), (32, .pointer (some ⟨a, 0, none⟩)), (33, .pointer (some ⟨a, 0, none⟩))]) (J := fun q u w => w.cell? ⟨a, 0, none⟩ = some (.slice ad n cap) ∧ w.cell? ⟨a, 1, none⟩ = some (.int .u8 (x : Int)) ∧ PushJ wr B (.slice ad n cap) n xs x (u 30) (u 31) q w) [9, 10] (fun slot => match slot with | 21 => u21 | 22 => u22 | 23 => u23 | 24 => u24 | 25 => u25 | 26 => u26 | 27 => u27 | 28 => u28 | 29 => u29 | 30 => u30 | 31 => u31 | 32 => u32 | 33 => u33 | _ => undef) rfl (by kernel_rfl) 13 _ rfl rfl (by kernel_rfl) (by kernel_rfl) (by kernel_rfl) (by decide) ?_ ?_ ?_ ?_ ?_
      · repeat (refine ⟨⟨_, rfl, fun _ _ => rfl⟩, ?_⟩)
        exact trivial
      · intro q u u2 w h hj
        have e1 : u 30 = u2 30 := h 9 (by decide)
        have e2 : u 31 = u2 31 := h 10 (by decide)
        show _ ∧ _ ∧ PushJ wr B (.slice ad n cap) n xs x (u2 30) (u2 31) q w
        rw [← e1, ← e2]
        exact hj
      · exact ⟨cell_chg k0 (Chg.refl _ wr).drew, cell_chg k1 (Chg.refl _ wr).drew, (Chg.refl _ wr).drew⟩
      · refine ⟨?_, ?_, ?_, ?_, ?_, ?_, ?_, ?_, ?_, ?_, ?_, ?_, ?_, trivial⟩
        · show StepR _ _ _ _ _ _  _ -- 21
          unfold StepR
          intro q u w hj hd K hK
          clear hd
          go_simp
          exact hK.out (.pointer (some ⟨a, 0, none⟩)) rfl
        · show StepR _ _ _ _ _ _  _ -- 22
          unfold StepR
          intro q u w hj hd K hK
          clear hd
          go_simp
          exact hK.out (.pointer (some ⟨a, 0, none⟩)) rfl
        · show StepR _ _ _ _ _ _  _ -- 23
          unfold StepR
          intro q u w hj hd K hK
          have h22 : u 22 = .pointer (some ⟨a, 0, none⟩) := hd.get 1 (by kernel_rfl)
          clear hd
          simp only [h22] at hK
          go_simp
          exact hK.out (.pointer (some ⟨a, 0, none⟩)) rfl
        · show StepR _ _ _ _ _ _  _ -- 24
          unfold StepR
          intro q u w hj hd K hK
          have h23 : u 23 = .pointer (some ⟨a, 0, none⟩) := hd.get 2 (by kernel_rfl)
          clear hd
          simp only [h23] at hK
          go_simp
          exact hK.out (.pointer (some ⟨a, 0, none⟩)) rfl
        · show StepR _ _ _ _ _ _  _ -- 25
          unfold StepR
          intro q u w hj hd K hK
          have h24 : u 24 = .pointer (some ⟨a, 0, none⟩) := hd.get 3 (by kernel_rfl)
          clear hd
          simp only [h24] at hK
          have hcell := hj.1
          go_simp
          exact hK.out _ rfl
        · show StepR _ _ _ _ _ _  _ -- 26
          unfold StepR
          intro q u w hj hd K hK
          clear hd
          go_simp
          exact hK.out (.pointer (some ⟨a, 0, none⟩)) rfl
        · show StepR _ _ _ _ _ _  _ -- 27
          unfold StepR
          intro q u w hj hd K hK
          have h26 : u 26 = .pointer (some ⟨a, 0, none⟩) := hd.get 5 (by kernel_rfl)
          clear hd
          simp only [h26] at hK
          go_simp
          exact hK.out (.pointer (some ⟨a, 0, none⟩)) rfl
        · show StepR _ _ _ _ _ _  _ -- 28
          unfold StepR
          intro q u w hj hd K hK
          have h27 : u 27 = .pointer (some ⟨a, 0, none⟩) := hd.get 6 (by kernel_rfl)
          clear hd
          simp only [h27] at hK
          go_simp
          exact hK.out (.pointer (some ⟨a, 1, none⟩)) rfl
        · show StepR _ _ _ _ _ _  _ -- 29
          unfold StepR
          intro q u w hj hd K hK
          have h28 : u 28 = .pointer (some ⟨a, 1, none⟩) := hd.get 7 (by kernel_rfl)
          clear hd
          simp only [h28] at hK
          have hcell := hj.2.1
          go_simp
          exact hK.out _ rfl
        · show StepW _ _ _ _ _ _ 0 _ -- 30
          unfold StepW
          intro u w hj hd K hK
          have h29 : u 29 = .int .u8 (x : Int) := hd.get 8 (by kernel_rfl)
          clear hd
          simp only [h29] at hK
          obtain ⟨j0, j1, hc⟩ := hj
          go_simp
          have c2 := chg_one w (.cells #[.int .u8 (x : Int)] 5)
          exact hK.out _ _ ⟨cell_chg j0 c2, cell_chg j1 c2, chg_then hc c2, _, rfl, from_one8 w (.int .u8 (x : Int)) 5⟩ trivial
        · show StepW _ _ _ _ _ _ 1 _ -- 31
          unfold StepW
          intro u w hj hd K hK
          have h25 : u 25 = .slice ad n cap := hd.get 4 (by kernel_rfl)
          clear hd
          obtain ⟨j0, j1, hc, c, hq, hf⟩ := hj
          refine step_append_moved (a := ⟨_, []⟩) (by rfl) (.tmp 25) (.tmp 30) 39 (by rfl) B 5 i0 (.int .u8 0) 1 1 Try.underlying39 hi hz0 hz1 hz2 rfl (by decide) (.slice ad n cap) n xs (by exact h25) (some ⟨c, 0, none⟩) 1 1 (by exact hq) [.int .u8 (x : Int)] (ownsRow_keep HOWN.out hc (fun _ _ f => f)) hf HONE.out (by have := HLEN.out; unfold maxLen; omega) (by have := HLEN.out; omega) (by have := hc.size; have := HBB.out; omega) ?_
          intro v2 w2 ho hg hm
          have b2 := HPU.out w w2 v2 hc ho hg
          exact hK.out v2 w2 ⟨(cells5 b2).1, (cells5 b2).2.1, w, hc, ho, hg, hm⟩ trivial
        · show StepR _ _ _ _ _ _  _ -- 32
          unfold StepR
          intro q u w hj hd K hK
          have h21 : u 21 = .pointer (some ⟨a, 0, none⟩) := hd.get 0 (by kernel_rfl)
          clear hd
          simp only [h21] at hK
          go_simp
          exact hK.out (.pointer (some ⟨a, 0, none⟩)) rfl
        · show StepR _ _ _ _ _ _  _ -- 33
          unfold StepR
          intro q u w hj hd K hK
          have h32 : u 32 = .pointer (some ⟨a, 0, none⟩) := hd.get 11 (by kernel_rfl)
          clear hd
          simp only [h32] at hK
          go_simp
          exact hK.out (.pointer (some ⟨a, 0, none⟩)) rfl
      · intro u w hj hA K hK
        have e33 : u 33 = .pointer (some ⟨a, 0, none⟩) := hA.at 33 (by kernel_rfl)
        clear hA
        obtain ⟨j0, j1, w1, hc, ho, hg, hm⟩ := hj
        obtain ⟨ad2, cap2, e31, _⟩ := own_any ho
        rw [e31] at ho hm
        have b2 := HPU.out w1 w _ hc ho hg
        have f0 := (cells5 b2).2.2.2.2.2 0
        have HPU2 := HPW.out w1 w _ hc ho hg
        have HM : Hid (Moved wr (.slice ad n cap) (.slice ad2 (n + 1) cap2)) := moved_from hc.size hm
        clear j1 hc ho hg hm b2
        go_simp
        refine hK.out _ _ ?_
        generalize w.setCell ⟨a, 0, none⟩ (.slice ad2 (n + 1) cap2) = w4 at *
        obtain ⟨hE4, hC4⟩ := HPU2.out
        have q1 : w4.cell? ⟨a, 1, none⟩ = some (.int .u8 (x : Int)) := (cells5 hE4.blk).2.1
        have q2 : w4.cell? ⟨a, 2, none⟩ = some (.int .i64 z) := by have hz := HZ.out; rw [hz]; exact (cells5 hE4.blk).2.2.1
        have g1 := (cells5 hE4.blk).2.2.2.2.2 1
        have g2 := (cells5 hE4.blk).2.2.2.2.2 2
        obtain ⟨hE5, hC5⟩ := hE4.setH 0 0 rfl
        obtain ⟨hE6, hC6⟩ := hE5.setN m (z - 1) (by have hz := HZ.out; omega)
        have HE6 : Hid (En ((w4.setCell ⟨a, 1, none⟩ (.int .u8 0)).setCell ⟨a, 2, none⟩ (.int .i64 (z - 1))) B a (.slice ad2 (n + 1) cap2) ⟨s' ++ [x], 0, m, t⟩ R) := hE6
        have HC6 : Hid (Chg (Foot a v) w0 ((w4.setCell ⟨a, 1, none⟩ (.int .u8 0)).setCell ⟨a, 2, none⟩ (.int .i64 (z - 1))) ∧ Moved w0 v (.slice ad2 (n + 1) cap2)) := by
          have hx := HX.out
          rw [HV2.out] at hx
          exact foot_step hx.1 hx.2 ((hC4.trans hC5 (fun _ e => .inl (.inl e))).trans hC6 (fun _ e => .inl (.inl e))) HM.out
        have q6 : ((w4.setCell ⟨a, 1, none⟩ (.int .u8 0)).setCell ⟨a, 2, none⟩ (.int .i64 (z - 1))).cell? ⟨a, 2, none⟩ = some (.int .i64 (z - 1)) := by
          have hz := HZ.out
          rw [show z - 1 = (m : Int) by omega] at hE6 ⊢
          exact (cells5 hE6.blk).2.2.1
        have Q6 : Hid (((w4.setCell ⟨a, 1, none⟩ (.int .u8 0)).setCell ⟨a, 2, none⟩ (.int .i64 (z - 1))).cell? ⟨a, 2, none⟩ = some (.int .i64 (z - 1))) := q6
        clear q6 hE4 hC4 hE5 hC5 hE6 hC6 HPU HPW HPU2 HX HM j0 f0 k0 k1
        go_simp
        go_wp2
        go_roundw
        case rel => exact ⟨s' ++ [x], 0, m, _, by omega, by have := HN.out; simp; omega, HE6.out, by have := HF.out; rw [← fin_succ] at this; exact this, HC6.out.1, HC6.out.2⟩
        case measure =>
          rw [Q6.out, k2']
          show (z - 1).toNat < z.toNat
          omega
set_option maxHeartbeats 2000000 in
set_option maxRecDepth 100000 in
theorem settle_any (B a : Nat) (v : Value) (s : List Nat) (x r t R : Nat) (w0 : World) (h : En w0 B a v ⟨s, x, r, t⟩ R) (hl : s.length + r + 1 ≤ 140737488355328) (hB : B ≤ w0.heap.size) :
    Calls Try.prog 100 #[.pointer (some ⟨a, 0, none⟩)] w0 fun e w' => e = .returned (.tuple #[]) ∧ ∃ v', En w' B a v' ⟨s ++ x :: List.replicate r 255, x, 0, t⟩ R ∧ Chg (Foot a v) w0 w' ∧ Moved w0 v v' := by
  obtain ⟨i0, hi, hz0, hz1, hz2⟩ := info_parts infoU8
  have hE := h
  obtain ⟨ad, cap, hv, _⟩ := own_any hE.own
  obtain ⟨k0, k1, k2, k3, k4, kf⟩ := cells5 hE.blk
  have hv2 : v = .slice ad (s).length cap := hv
  have HV : Hid (v = .slice ad (s).length cap) := hv2
  rw [hv2] at k0
  have hown : w0.ownsRow B 5 1 (.slice ad (s).length cap) (s).length (ins .u8 (nums (s))) := by rw [← hv2]; exact hE.own
  have HPB : Hid (∀ w1 w2 v2, Chg (fun _ => False) w0 w1 → w2.ownsRow B 5 1 v2 ((s).length + 1) (ins .u8 (nums (s)) ++ [.int .u8 ((x : Nat) : Int)]) → w1.grownBy w2 (Value.slice ad (s).length cap).ownBlock → w2.heap[a]? = some (.cells #[.slice ad (s).length cap, .int .u8 ((x : Nat) : Int), .int .i64 ((r : Nat) : Int), .int .u32 ((t : Nat) : Int), .int .u32 (R : Int)] 75 (0, 0)) ∧ En (w2.setCell ⟨a, 0, none⟩ v2) B a v2 ⟨s ++ [x], x, r, t⟩ R ∧ Chg (Foot a v) w0 (w2.setCell ⟨a, 0, none⟩ v2)) := fun w1 w2 v2 hc ho hg => by
    rw [← hv2] at hg ⊢
    exact hE.pushed hc ho hg
  have HONE : Hid (∀ u ∈ [Value.int .u8 (x : Int)], u.oneCell' = true) := one8 x
  clear k2 k3 k4 kf hv hE h
  obtain ⟨n, hn⟩ : ∃ n, n = (s).length := ⟨_, rfl⟩
  obtain ⟨xs, hxs⟩ : ∃ xs, xs = ins .u8 (nums (s)) := ⟨_, rfl⟩
  rw [← hn, ← hxs] at hown
  rw [← hn] at k0
  have HN : Hid (n = (s).length) := hn
  have HXS : Hid (xs = ins .u8 (nums (s))) := hxs
  have HOWN : Hid (w0.ownsRow B 5 1 (.slice ad n cap) n xs) := hown
  have HLEN : Hid (n + 1 ≤ 140737488355328) := by show n + 1 ≤ _; omega
  have HBB : Hid (B ≤ w0.heap.size) := hB
  have HPU : Hid (∀ w1 w2 v2, Chg (fun _ => False) w0 w1 → w2.ownsRow B 5 1 v2 (n + 1) (xs ++ [.int .u8 (x : Int)]) → w1.grownBy w2 (Value.slice ad n cap).ownBlock → w2.heap[a]? = some (.cells #[.slice ad n cap, .int .u8 (x : Int), .int .i64 (r : Int), .int .u32 (t : Int), .int .u32 (R : Int)] 75 (0, 0))) := fun w1 w2 v2 hc ho hg => by
    rw [hn, hxs] at ho
    rw [hn] at hg ⊢
    exact (HPB.out w1 w2 v2 hc ho hg).1
  have HPW : Hid (∀ w1 w2 v2, Chg (fun _ => False) w0 w1 → w2.ownsRow B 5 1 v2 (n + 1) (xs ++ [.int .u8 (x : Int)]) → w1.grownBy w2 (Value.slice ad n cap).ownBlock → Hid (En (w2.setCell ⟨a, 0, none⟩ v2) B a v2 ⟨s ++ [x], x, r, t⟩ R ∧ Chg (Foot a v) w0 (w2.setCell ⟨a, 0, none⟩ v2))) := fun w1 w2 v2 hc ho hg => by
    rw [hn, hxs] at ho
    rw [hn] at hg
    exact (HPB.out w1 w2 v2 hc ho hg).2
  have HV2 : Hid (v = .slice ad n cap) := by show v = _; rw [hn]; exact HV.out
  clear hown hn hxs HPB HV hv2
  go_enter Try.func100, Try.ntmps100
  go_wp2_with fail
  refine wp_region_phase (mk := fun u => #[_, _, u 2, u 3, u 4, u 5, u 6, u 7, u 8, u 9, u 10, u 11, u 12, u 13, u 14, _, _, _, _, _, _, _, _, _, _, _, _, _, _, _, _, _, _, _, _, _]) (G := lookG [(2, .pointer (some ⟨a, 0, none⟩)), (3, .pointer (some ⟨a, 0, none⟩)), (4, .pointer (some ⟨a, 0, none⟩)), (5, .pointer (some ⟨a, 0, none⟩)), (6, .slice ad n cap), (7, .pointer (some ⟨a, 0, none⟩)), (8, .pointer (some ⟨a, 0, none⟩)), (9, .pointer (some ⟨a, 1, none⟩)), (10, .int .u8 (x : Int)), (13, .pointer (some ⟨a, 0, none⟩)), (14, .pointer (some ⟨a, 0, none⟩))]) (J := fun q u w => w.cell? ⟨a, 0, none⟩ = some (.slice ad n cap) ∧ w.cell? ⟨a, 1, none⟩ = some (.int .u8 (x : Int)) ∧ PushJ w0 B (.slice ad n cap) n xs x (u 11) (u 12) q w) [9, 10] (fun _ => undef) rfl (by kernel_rfl) 13 _ rfl rfl (by kernel_rfl) (by kernel_rfl) (by kernel_rfl) (by decide) ?_ ?_ ?_ ?_ ?_
  · repeat (refine ⟨⟨_, rfl, fun _ _ => rfl⟩, ?_⟩)
    exact trivial
  · intro q u u2 w h hj
    have e1 : u 11 = u2 11 := h 9 (by decide)
    have e2 : u 12 = u2 12 := h 10 (by decide)
    show _ ∧ _ ∧ PushJ w0 B (.slice ad n cap) n xs x (u2 11) (u2 12) q w
    rw [← e1, ← e2]
    exact hj
  · exact ⟨cell_chg k0 (Chg.refl _ w0).drew, cell_chg k1 (Chg.refl _ w0).drew, (Chg.refl _ w0).drew⟩
  · refine ⟨?_, ?_, ?_, ?_, ?_, ?_, ?_, ?_, ?_, ?_, ?_, ?_, ?_, trivial⟩
    · show StepR _ _ _ _ _ _  _ -- 2
      unfold StepR
      intro q u w hj hd K hK
      clear hd
      go_simp
      exact hK.out (.pointer (some ⟨a, 0, none⟩)) rfl
    · show StepR _ _ _ _ _ _  _ -- 3
      unfold StepR
      intro q u w hj hd K hK
      clear hd
      go_simp
      exact hK.out (.pointer (some ⟨a, 0, none⟩)) rfl
    · show StepR _ _ _ _ _ _  _ -- 4
      unfold StepR
      intro q u w hj hd K hK
      have h3 : u 3 = .pointer (some ⟨a, 0, none⟩) := hd.get 1 (by kernel_rfl)
      clear hd
      simp only [h3] at hK
      go_simp
      exact hK.out (.pointer (some ⟨a, 0, none⟩)) rfl
    · show StepR _ _ _ _ _ _  _ -- 5
      unfold StepR
      intro q u w hj hd K hK
      have h4 : u 4 = .pointer (some ⟨a, 0, none⟩) := hd.get 2 (by kernel_rfl)
      clear hd
      simp only [h4] at hK
      go_simp
      exact hK.out (.pointer (some ⟨a, 0, none⟩)) rfl
    · show StepR _ _ _ _ _ _  _ -- 6
      unfold StepR
      intro q u w hj hd K hK
      have h5 : u 5 = .pointer (some ⟨a, 0, none⟩) := hd.get 3 (by kernel_rfl)
      clear hd
      simp only [h5] at hK
      have hcell := hj.1
      go_simp
      exact hK.out _ rfl
    · show StepR _ _ _ _ _ _  _ -- 7
      unfold StepR
      intro q u w hj hd K hK
      clear hd
      go_simp
      exact hK.out (.pointer (some ⟨a, 0, none⟩)) rfl
    · show StepR _ _ _ _ _ _  _ -- 8
      unfold StepR
      intro q u w hj hd K hK
      have h7 : u 7 = .pointer (some ⟨a, 0, none⟩) := hd.get 5 (by kernel_rfl)
      clear hd
      simp only [h7] at hK
      go_simp
      exact hK.out (.pointer (some ⟨a, 0, none⟩)) rfl
    · show StepR _ _ _ _ _ _  _ -- 9
      unfold StepR
      intro q u w hj hd K hK
      have h8 : u 8 = .pointer (some ⟨a, 0, none⟩) := hd.get 6 (by kernel_rfl)
      clear hd
      simp only [h8] at hK
      go_simp
      exact hK.out (.pointer (some ⟨a, 1, none⟩)) rfl
    · show StepR _ _ _ _ _ _  _ -- 10
      unfold StepR
      intro q u w hj hd K hK
      have h9 : u 9 = .pointer (some ⟨a, 1, none⟩) := hd.get 7 (by kernel_rfl)
      clear hd
      simp only [h9] at hK
      have hcell := hj.2.1
      go_simp
      exact hK.out _ rfl
    · show StepW _ _ _ _ _ _ 0 _ -- 11
      unfold StepW
      intro u w hj hd K hK
      have h10 : u 10 = .int .u8 (x : Int) := hd.get 8 (by kernel_rfl)
      clear hd
      simp only [h10] at hK
      obtain ⟨j0, j1, hc⟩ := hj
      go_simp
      have c2 := chg_one w (.cells #[.int .u8 (x : Int)] 5)
      exact hK.out _ _ ⟨cell_chg j0 c2, cell_chg j1 c2, chg_then hc c2, _, rfl, from_one8 w (.int .u8 (x : Int)) 5⟩ trivial
    · show StepW _ _ _ _ _ _ 1 _ -- 12
      unfold StepW
      intro u w hj hd K hK
      have h6 : u 6 = .slice ad n cap := hd.get 4 (by kernel_rfl)
      clear hd
      obtain ⟨j0, j1, hc, c, hq, hf⟩ := hj
      refine step_append_moved (a := ⟨_, []⟩) (by rfl) (.tmp 6) (.tmp 11) 39 (by rfl) B 5 i0 (.int .u8 0) 1 1 Try.underlying39 hi hz0 hz1 hz2 rfl (by decide) (.slice ad n cap) n xs (by exact h6) (some ⟨c, 0, none⟩) 1 1 (by exact hq) [.int .u8 (x : Int)] (ownsRow_keep HOWN.out hc (fun _ _ f => f)) hf HONE.out (by have := HLEN.out; unfold maxLen; omega) (by have := HLEN.out; omega) (by have := hc.size; have := HBB.out; omega) ?_
      intro v2 w2 ho hg hm
      have b2 := HPU.out w w2 v2 hc ho hg
      exact hK.out v2 w2 ⟨(cells5 b2).1, (cells5 b2).2.1, w, hc, ho, hg, hm⟩ trivial
    · show StepR _ _ _ _ _ _  _ -- 13
      unfold StepR
      intro q u w hj hd K hK
      have h2 : u 2 = .pointer (some ⟨a, 0, none⟩) := hd.get 0 (by kernel_rfl)
      clear hd
      simp only [h2] at hK
      go_simp
      exact hK.out (.pointer (some ⟨a, 0, none⟩)) rfl
    · show StepR _ _ _ _ _ _  _ -- 14
      unfold StepR
      intro q u w hj hd K hK
      have h13 : u 13 = .pointer (some ⟨a, 0, none⟩) := hd.get 11 (by kernel_rfl)
      clear hd
      simp only [h13] at hK
      go_simp
      exact hK.out (.pointer (some ⟨a, 0, none⟩)) rfl
  · intro u w hj hA K hK
    have e14 : u 14 = .pointer (some ⟨a, 0, none⟩) := hA.at 14 (by kernel_rfl)
    clear hA
    obtain ⟨j0, j1, w1, hc, ho, hg, hm⟩ := hj
    obtain ⟨ad2, cap2, e12, _⟩ := own_any ho
    rw [e12] at ho hm
    have b2 := HPU.out w1 w _ hc ho hg
    have f0 := (cells5 b2).2.2.2.2.2 0
    have HPU2 := HPW.out w1 w _ hc ho hg
    have HM : Hid (Moved w0 (.slice ad n cap) (.slice ad2 (n + 1) cap2)) := moved_from hc.size hm
    clear j1 hc ho hg hm b2
    go_simp
    refine hK.out _ _ ?_
    have HM2 : Hid (Moved w0 v (.slice ad2 (n + 1) cap2)) := by show Moved _ v _; rw [HV2.out]; exact HM.out
    have HL : Hid ((s ++ [x]).length + r = s.length + 1 + r) := by show _ = _; simp
    generalize w.setCell ⟨a, 0, none⟩ (.slice ad2 (n + 1) cap2) = w4 at *
    clear HPU HPW HOWN HM k0 k1 j0 f0 HV2 HXS HONE
    go_simp
    go_wp2_with fail
    go_loopw [15] (fun _ wr => ∃ (s' : List Nat) (m : Nat) (v' : Value), s'.length + m = s.length + 1 + r ∧ En wr B a v' ⟨s', x, m, t⟩ R ∧ Hid (s' ++ List.replicate m 255 = s ++ x :: List.replicate r 255) ∧ Chg (Foot a v) w0 wr ∧ Moved w0 v v') (fun _ wr => match wr.cell? ⟨a, 2, none⟩ with | some (.int _ q) => q.toNat | _ => 0)
    case atStart => exact ⟨s ++ [x], r, _, HL.out, HPU2.out.1, by show _ = _; simp, HPU2.out.2, HM2.out⟩
    case round =>
      clear HPU2 HM2 HL HN
      obtain ⟨s', m, v', hlen, hE, HF, hC, hM⟩ := hrel
      have hB2 : B ≤ wr.heap.size := Nat.le_trans hB hC.size
      have HX : Hid (Chg (Foot a v) w0 wr ∧ Moved w0 v v') := ⟨hC, hM⟩
      clear hC hM
      cases m with
      | zero =>
        have k2 : wr.cell? ⟨a, 2, none⟩ = some (.int .i64 0) := (cells5 hE.blk).2.2.1
        have HE : Hid (En wr B a v' ⟨s ++ x :: List.replicate r 255, x, 0, t⟩ R) := by
          have h1 := HF.out
          rw [List.replicate_zero, List.append_nil] at h1
          show En wr B a v' ⟨s ++ x :: List.replicate r 255, x, 0, t⟩ R
          rw [← h1]
          exact hE
        clear hE HF
        go_wp2
        go_end0
        exact ⟨rfl, v', HE.out, HX.out.1, HX.out.2⟩
      | succ m =>
        clear HLEN
        obtain ⟨ad, cap, hv, _⟩ := own_any hE.own
        obtain ⟨k0, k1, k2, k3, k4, kf⟩ := cells5 hE.blk
        have hv2 : v' = .slice ad s'.length cap := hv
        rw [hv2] at k0 hE HX
        have f0 := kf 0
        have hown : wr.ownsRow B 5 1 (.slice ad s'.length cap) s'.length (ins .u8 (nums s')) := hE.own
        obtain ⟨z, hz⟩ : ∃ z : Int, z = ((m + 1 : Nat) : Int) := ⟨_, rfl⟩
        have HZ : Hid (z = ((m + 1 : Nat) : Int)) := hz
        have z1 : 0 < z := by omega
        have z2 : z ≤ 140737488355328 := by omega
        have k2' : wr.cell? ⟨a, 2, none⟩ = some (.int .i64 z) := by rw [hz]; exact k2
        have c1 := chg_one wr (.cells #[.int .u8 255] 5)
        have o2 := hown.alloc (.cells #[.int .u8 255] 5)
        have hfr := from_one8 wr (.int .u8 255) 5
        have hone : ∀ u ∈ [Value.int .u8 255], u.oneCell' = true := one8 255
        have hsz : B ≤ (wr.alloc (.cells #[.int .u8 255] 5)).heap.size := Nat.le_trans hB2 c1.size
        have HP : Hid (∀ w2 v2, w2.ownsRow B 5 1 v2 (s'.length + 1) (ins .u8 (nums s') ++ [.int .u8 255]) → (wr.alloc (.cells #[.int .u8 255] 5)).grownBy w2 (Value.slice ad s'.length cap).ownBlock → w2.heap[a]? = some (.cells #[.slice ad s'.length cap, .int .u8 (x : Int), .int .i64 z, .int .u32 (t : Int), .int .u32 (R : Int)] 75 (0, 0)) ∧ En (w2.setCell ⟨a, 0, none⟩ v2) B a v2 ⟨s' ++ [255], x, m + 1, t⟩ R ∧ Chg (Foot a (.slice ad s'.length cap)) wr (w2.setCell ⟨a, 0, none⟩ v2)) := fun w2 v2 ho hg => by
          have hz := HZ.out
          rw [hz]
          exact hE.pushed (x := 255) (chg_one wr (.cells #[.int .u8 255] 5)) ho hg
        have HC1 : Hid (wr.heap.size ≤ (wr.alloc (.cells #[.int .u8 255] 5)).heap.size) := c1.size
        clear hE k2 k3 k4 kf hv hv2 hown hz c1 k1
        go_wp2_with (at_builtin; refine wpList_append_moved rfl _ _ 39 rfl B 5 i0 (.int .u8 0) 1 1 Try.underlying39 hi hz0 hz1 hz2 rfl (by decide) _ s'.length (ins .u8 (nums s')) rfl (some ⟨wr.heap.size, 0, none⟩) 1 1 rfl [.int .u8 255] o2 hfr hone (by unfold maxLen; omega) (by omega) hsz ?_)
        intro v2 w2 ho hg hm
        obtain ⟨ad2, cap2, hv2, _⟩ := own_any ho
        subst hv2
        obtain ⟨b2, hE4, hC4⟩ := HP.out _ _ ho hg
        have p0 := (cells5 b2).1
        have p2 := (cells5 b2).2.2.1
        have pf0 := (cells5 b2).2.2.2.2.2 0
        have pf2 := (cells5 b2).2.2.2.2.2 2
        have HM : Hid (Moved wr (.slice ad s'.length cap) (.slice ad2 (s'.length + 1) cap2)) := moved_from HC1.out hm
        obtain ⟨hE6, hC6⟩ := hE4.setN m (z - 1) (by have hz := HZ.out; omega)
        have HE6 : Hid (En ((w2.setCell ⟨a, 0, none⟩ (.slice ad2 (s'.length + 1) cap2)).setCell ⟨a, 2, none⟩ (.int .i64 (z - 1))) B a (.slice ad2 (s'.length + 1) cap2) ⟨s' ++ [255], x, m, t⟩ R) := hE6
        have HC6 : Hid (Chg (Foot a v) w0 ((w2.setCell ⟨a, 0, none⟩ (.slice ad2 (s'.length + 1) cap2)).setCell ⟨a, 2, none⟩ (.int .i64 (z - 1))) ∧ Moved w0 v (.slice ad2 (s'.length + 1) cap2)) :=
          foot_step HX.out.1 HX.out.2 (hC4.trans hC6 (fun _ e => .inl (.inl e))) HM.out
        have Q6 : Hid (((w2.setCell ⟨a, 0, none⟩ (.slice ad2 (s'.length + 1) cap2)).setCell ⟨a, 2, none⟩ (.int .i64 (z - 1))).cell? ⟨a, 2, none⟩ = some (.int .i64 (z - 1))) := by
          have hz := HZ.out
          show _ = _
          rw [show z - 1 = (m : Int) by omega] at hE6 ⊢
          exact (cells5 hE6.blk).2.2.1
        clear hE4 hC4 hE6 hC6 HP HX HM ho hg hm b2 o2 hfr hone hsz
        go_wp2
        go_roundw
        case rel => exact ⟨s' ++ [255], m, _, by simp; omega, HE6.out, by have := HF.out; rw [List.replicate_succ] at this; show _ = _; simpa using this, HC6.out.1, HC6.out.2⟩
        case measure =>
          rw [Q6.out, k2']
          show (z - 1).toNat < z.toNat
          omega
end Go.Proofs.Ytibgjpifmpljkaa

/- The contracts of shift, add and widen; of no statement by themselves. -/
namespace Go.Proofs.Ytibgjpifmpljkaa
open Go.RowKit
set_option linter.unusedVariables false

set_option maxHeartbeats 2000000 in
set_option maxRecDepth 100000 in
theorem shift_any (B a : Nat) (v : Value) (s : List Nat) (d r t R : Nat) (w0 : World) (h : En w0 B a v ⟨s, d, r, t⟩ R) (ht : t < 4294967296) (hl : s.length + r + 1 ≤ 140737488355328) (hB : B ≤ w0.heap.size) :
    Calls Try.prog 95 #[.pointer (some ⟨a, 0, none⟩)] w0 fun e w' => e = .returned (.tuple #[]) ∧ ∃ v', En w' B a v' (Rc.shift ⟨s, d, r, t⟩) R ∧ Chg (Foot a v) w0 w' ∧ Moved w0 v v' := by
  have k3 : w0.cell? ⟨a, 3, none⟩ = some (.int .u32 (t : Int)) := (cells5 h.blk).2.2.2.1
  have k2 : w0.cell? ⟨a, 2, none⟩ = some (.int .i64 (r : Int)) := (cells5 h.blk).2.2.1
  have f3 := (cells5 h.blk).2.2.2.2.2 3
  have f2 := (cells5 h.blk).2.2.2.2.2 2
  obtain ⟨hS, hC⟩ := h.setT (t * 256 % 4294967296) ((t : Int) * 256 % 4294967296) (by omega)
  by_cases hT : t / 16777216 = 255
  · have hz : (t : Int) / 16777216 = 255 := by omega
    obtain ⟨hS2, hC2⟩ := hS.setN (r + 1) ((r : Int) + 1) (by omega)
    have HS : Hid (En ((w0.setCell ⟨a, 3, none⟩ (.int .u32 ((t : Int) * 256 % 4294967296))).setCell ⟨a, 2, none⟩ (.int .i64 ((r : Int) + 1))) B a v (Rc.shift ⟨s, d, r, t⟩) R) := by
      show En _ _ _ _ _ _
      unfold Rc.shift
      rw [if_pos hT]
      exact hS2
    have HC : Hid (Chg (Foot a v) w0 ((w0.setCell ⟨a, 3, none⟩ (.int .u32 ((t : Int) * 256 % 4294967296))).setCell ⟨a, 2, none⟩ (.int .i64 ((r : Int) + 1)))) := (hC.trans hC2 (fun _ e => .inl e)).mono (fun _ e => .inl (.inl e))
    clear h hS hC hS2 hC2
    go_enter Try.func95, Try.ntmps95
    go_wp2
    (try simp only [Exit.inBlock, Exit.then])
    refine bodyPost_ret (results_none rfl _ _ _) rfl ?_
    exact ⟨rfl, v, HS.out, HC.out, Moved.refl _ _⟩
  · have hz : decide ((t : Int) / 16777216 = 255) = false := by simp; omega
    have hz2 : ((t : Int) / 16777216 == 255) = false := by simp; omega
    have HS : Hid (En (w0.setCell ⟨a, 3, none⟩ (.int .u32 ((t : Int) * 256 % 4294967296))) B a v ⟨s, d, r, t * 256 % 4294967296⟩ R) := hS
    have HC : Hid (Chg (Foot a v) w0 (w0.setCell ⟨a, 3, none⟩ (.int .u32 ((t : Int) * 256 % 4294967296)))) := hC.mono (fun _ e => .inl (.inl e))
    have HT : Hid (¬ t / 16777216 = 255) := hT
    clear h hS hC hT k2 f2
    go_enter Try.func95, Try.ntmps95
    go_wp2_with fail
    refine (settle_any B a v s d r (t * 256 % 4294967296) R _ HS.out hl (by rw [set_size]; exact hB)).mono ?_
    rintro e w2 ⟨rfl, v2, h2, c2, m2⟩
    have g1 := (cells5 h2.blk).2.2.2.2.2 1
    have p1 := (cells5 h2.blk).2.1
    obtain ⟨hS3, hC3⟩ := h2.setH (t / 16777216) ((t : Int) / 16777216) (by omega)
    have HS3 : Hid (En (w2.setCell ⟨a, 1, none⟩ (.int .u8 ((t : Int) / 16777216))) B a v2 (Rc.shift ⟨s, d, r, t⟩) R) := by
      show En _ _ _ _ _ _
      unfold Rc.shift
      rw [if_neg HT.out]
      exact hS3
    have HC3 : Hid (Chg (Foot a v) w0 (w2.setCell ⟨a, 1, none⟩ (.int .u8 ((t : Int) / 16777216)))) := (HC.out.trans c2 (fun _ e => .inl e)).trans hC3 (fun _ e => .inl (.inl e))
    have HM3 : Hid (Moved w0 v v2) := fun g e => by
      rcases m2 g e with e | e
      · exact .inl e
      · rw [set_size] at e; exact .inr e
    clear h2 c2 m2 hS3 hC3 HS HC
    go_wp2
    go_end0
    exact ⟨rfl, v2, HS3.out, HC3.out, HM3.out⟩

set_option maxHeartbeats 2000000 in
set_option maxRecDepth 100000 in
theorem add_any (B a : Nat) (v : Value) (s : List Nat) (d r t R x : Nat) (w0 : World) (h : En w0 B a v ⟨s, d, r, t⟩ R) (ht : t < 4294967296) (hx : x < 4294967296) (hd : 4294967296 ≤ t + x → d < 255) (hl : s.length + r ≤ 140737488355328) (hB : B ≤ w0.heap.size) :
    Calls Try.prog 69 #[.pointer (some ⟨a, 0, none⟩), .int .u32 (x : Int)] w0 fun e w' => e = .returned (.tuple #[]) ∧ ∃ v', En w' B a v' (Rc.add ⟨s, d, r, t⟩ x) R ∧ Chg (Foot a v) w0 w' ∧ Moved w0 v v' := by
  have k3 : w0.cell? ⟨a, 3, none⟩ = some (.int .u32 (t : Int)) := (cells5 h.blk).2.2.2.1
  have f3 := (cells5 h.blk).2.2.2.2.2 3
  by_cases hT : t + x < 4294967296
  · obtain ⟨hS, hC⟩ := h.setT (t + x) ((t : Int) + (x : Int)) (by omega)
    have HS : Hid (En (w0.setCell ⟨a, 3, none⟩ (.int .u32 ((t : Int) + (x : Int)))) B a v (Rc.add ⟨s, d, r, t⟩ x) R) := by
      show En _ _ _ _ _ _
      unfold Rc.add
      rw [if_pos hT]
      exact hS
    have HC : Hid (Chg (Foot a v) w0 (w0.setCell ⟨a, 3, none⟩ (.int .u32 ((t : Int) + (x : Int))))) := hC.mono (fun _ e => .inl (.inl e))
    have hlt : decide ((t : Int) + (x : Int) < (x : Int)) = false := by simp; omega
    have hz : ((t : Int) + (x : Int)) % 4294967296 = (t : Int) + (x : Int) := by omega
    clear h hS hC hd
    go_enter Try.func69, Try.ntmps69
    go_wp2
    go_end0
    exact ⟨rfl, v, HS.out, HC.out, Moved.refl _ _⟩
  · have hd2 := hd (by omega)
    obtain ⟨y, hy⟩ : ∃ y : Int, y = ((t + x - 4294967296 : Nat) : Int) := ⟨_, rfl⟩
    have hw : IntKind.u32.wrap ((t : Int) + (x : Int)) = y := by simp [IntKind.wrap, IntKind.signed, IntKind.bits]; omega
    have hz : ((t : Int) + (x : Int)) % 4294967296 = y := by omega
    have hylt : y < (x : Int) := by omega
    obtain ⟨hS, hC⟩ := h.setT (t + x - 4294967296) y hy
    have HS : Hid (En (w0.setCell ⟨a, 3, none⟩ (.int .u32 y)) B a v ⟨s, d, r, t + x - 4294967296⟩ R) := hS
    have HC : Hid (Chg (Foot a v) w0 (w0.setCell ⟨a, 3, none⟩ (.int .u32 y))) := hC.mono (fun _ e => .inl (.inl e))
    have HT : Hid (¬ t + x < 4294967296) := hT
    have q3 : (w0.setCell ⟨a, 3, none⟩ (.int .u32 y)).cell? ⟨a, 3, none⟩ = some (.int .u32 y) := by rw [hy] at hS ⊢; exact (cells5 hS.blk).2.2.2.1
    clear h hS hC hd hy hT
    go_enter Try.func69, Try.ntmps69
    go_wp2_with fail
    refine (carry_any B a v s d r (t + x - 4294967296) R _ HS.out hd2 hl (by rw [set_size]; exact hB)).mono ?_
    rintro e w2 ⟨rfl, v2, h2, c2, m2⟩
    have HS3 : Hid (En w2 B a v2 (Rc.add ⟨s, d, r, t⟩ x) R) := by
      show En _ _ _ _ _ _
      unfold Rc.add
      rw [if_neg HT.out]
      exact h2
    have HC3 : Hid (Chg (Foot a v) w0 w2) := HC.out.trans c2 (fun _ e => .inl e)
    have HM3 : Hid (Moved w0 v v2) := fun g e => by
      rcases m2 g e with e | e
      · exact .inl e
      · rw [set_size] at e; exact .inr e
    clear h2 c2 m2 HS HC
    go_wp2
    go_end0
    exact ⟨rfl, v2, HS3.out, HC3.out, HM3.out⟩

/-- The program's encoder as the one over natural numbers. -/
def Enc (w : World) (B a : Nat) (v : Value) (e : Rc.E) : Prop := ∃ l, En w B a v l e.R ∧ Rc.Is l e

set_option maxHeartbeats 1000000 in
set_option maxRecDepth 100000 in
theorem widen_no (B a : Nat) (v : Value) (l : Rc.Lo) (R : Nat) (w : World) (h : En w B a v l R) (hR : 16777216 ≤ R) (hR2 : R ≤ 4294967295) : Calls Try.prog 70 #[.pointer (some ⟨a, 0, none⟩)] w fun e w' => e = .returned (.tuple #[]) ∧ w = w' := by
  have c1 := (cells5 h.blk).2.2.2.2.1
  clear h
  obtain ⟨z, hz⟩ : ∃ z : Int, z = (R : Int) := ⟨_, rfl⟩
  have h1 : 16777216 ≤ z := by omega
  have h2 : z ≤ 4294967295 := by omega
  rw [← hz] at c1
  clear hz hR hR2
  have hd : decide (z < 16777216) = false := by simp; omega
  go_enter Try.func70, Try.ntmps70
  go_wp2_with fail
  refine wp_loop_rounds 1 ?_
  rw [rounds_succ]
  go_wp2
  go_end0
  exact ⟨rfl, rfl⟩

set_option maxHeartbeats 2000000 in
set_option maxRecDepth 100000 in
theorem widen_yes (B a : Nat) (v : Value) (s : List Nat) (d r t R : Nat) (w0 : World) (h : En w0 B a v ⟨s, d, r, t⟩ R) (ht : t < 4294967296) (hR1 : 65536 ≤ R) (hR2 : R < 16777216) (hl : s.length + r + 1 ≤ 140737488355328) (hB : B ≤ w0.heap.size) :
    Calls Try.prog 70 #[.pointer (some ⟨a, 0, none⟩)] w0 fun e w' => e = .returned (.tuple #[]) ∧ ∃ v', En w' B a v' (Rc.shift ⟨s, d, r, t⟩) (256 * R) ∧ Chg (Foot a v) w0 w' ∧ Moved w0 v v' := by
  have k4 := (cells5 h.blk).2.2.2.2.1
  have HH : Hid (En w0 B a v ⟨s, d, r, t⟩ R) := h
  obtain ⟨z, hz⟩ : ∃ z : Int, z = (R : Int) := ⟨_, rfl⟩
  have HZ : Hid (z = (R : Int)) := hz
  have z1 : 65536 ≤ z := by omega
  have z2 : z < 16777216 := by omega
  rw [← hz] at k4
  clear hz hR1 hR2 h
  go_enter Try.func70, Try.ntmps70
  go_wp2_with fail
  go_loopw [2] (fun _ wr => wr = w0 ∨ ∃ v', En wr B a v' (Rc.shift ⟨s, d, r, t⟩) (256 * R) ∧ Chg (Foot a v) w0 wr ∧ Moved w0 v v') (fun _ wr => match wr.cell? ⟨a, 4, none⟩ with | some (.int _ q) => (16777216 - q).toNat | _ => 0)
  case atStart => exact .inl rfl
  case round =>
    rcases hrel with rfl | ⟨v', hR, hC, hM⟩
    · go_wp2_with fail
      refine (shift_any B a v s d r t R _ HH.out ht hl hB).mono ?_
      rintro e w2 ⟨rfl, v2, h2, c2, m2⟩
      have q4 : w2.cell? ⟨a, 4, none⟩ = some (.int .u32 z) := by have hz := HZ.out; rw [hz]; exact (cells5 h2.blk).2.2.2.2.1
      have g4 := (cells5 h2.blk).2.2.2.2.2 4
      obtain ⟨hS3, hC3⟩ := h2.setR (256 * R) (z * 256) (by have hz := HZ.out; omega)
      have hzm : z * 256 % 4294967296 = z * 256 := by omega
      have HS3 : Hid (En (w2.setCell ⟨a, 4, none⟩ (.int .u32 (z * 256))) B a v2 (Rc.shift ⟨s, d, r, t⟩) (256 * R)) := hS3
      have HC3 : Hid (Chg (Foot a v) wr (w2.setCell ⟨a, 4, none⟩ (.int .u32 (z * 256)))) := c2.trans hC3 (fun _ e => .inl (.inl e))
      have HM3 : Hid (Moved wr v v2) := m2
      have Q4 : Hid ((w2.setCell ⟨a, 4, none⟩ (.int .u32 (z * 256))).cell? ⟨a, 4, none⟩ = some (.int .u32 (z * 256))) := by
        have h3 := (cells5 hS3.blk).2.2.2.2.1
        have hz := HZ.out
        rw [show ((256 * R : Nat) : Int) = z * 256 by omega] at h3
        exact h3
      clear h2 c2 m2 hS3 hC3 HH
      go_wp2
      go_roundw
      case rel => exact .inr ⟨v2, HS3.out, HC3.out, HM3.out⟩
      case measure =>
        rw [Q4.out, k4]
        show (16777216 - z * 256).toNat < (16777216 - z).toNat
        omega
    · have q4 : wr.cell? ⟨a, 4, none⟩ = some (.int .u32 (z * 256)) := by
        have h3 := (cells5 hR.blk).2.2.2.2.1
        have hz := HZ.out
        rw [show ((256 * R : Nat) : Int) = z * 256 by omega] at h3
        exact h3
      have hd : decide (z * 256 < 16777216) = false := by simp; omega
      clear k4 HH
      go_wp2
      go_end0
      exact ⟨rfl, v', hR, hC, hM⟩

/-- Behind widening. -/
theorem widen_any (B a : Nat) (v : Value) (f : Rc.E) (w : World) (h : Enc w B a v f) (h1 : 65536 ≤ f.R) (h2 : f.R ≤ 4294967295) (hk : f.k + 1 ≤ 140737488355328) (hB : B ≤ w.heap.size) :
    Calls Try.prog 70 #[.pointer (some ⟨a, 0, none⟩)] w fun e w' => e = .returned (.tuple #[]) ∧ ∃ v', Enc w' B a v' (Rc.widen f) ∧ Chg (Foot a v) w w' ∧ Moved w v v' := by
  obtain ⟨l, hE, hI⟩ := h
  by_cases hR : f.R < 16777216
  · have e : Rc.widen f = ⟨256 * f.L, 256 * f.R, f.k + 1⟩ := by unfold Rc.widen; rw [if_pos hR]
    rw [e]
    refine (widen_yes B a v l.s l.h l.r l.t f.R w hE hI.ht h1 hR (by have := hI.len; omega) hB).mono ?_
    rintro x w' ⟨he, v', hE', hC, hM⟩
    exact ⟨he, v', ⟨_, hE', Rc.shift_is hI hR⟩, hC, hM⟩
  · have e : Rc.widen f = f := by unfold Rc.widen; rw [if_neg hR]
    rw [e]
    exact (widen_no B a v l f.R w hE (by omega) h2).mono fun x w' ⟨he, hw⟩ => ⟨he, v, by rw [← hw]; exact ⟨l, hE, hI⟩, by rw [← hw]; exact Chg.refl _ _, Moved.refl _ _⟩
/-- Behind adding. -/
theorem adde_any (B a : Nat) (v : Value) (f : Rc.E) (b Q S : Nat) (w : World) (l : Rc.Lo) (hE : En w B a v l S) (hI : Rc.Is l f) (hb : b < 4294967296) (hQ : b + Q ≤ f.R) (h0 : 0 < Q) (h2 : f.R ≤ 4294967295) (hk : f.k + 1 ≤ 140737488355328) (hB : B ≤ w.heap.size) :
    Calls Try.prog 69 #[.pointer (some ⟨a, 0, none⟩), .int .u32 (b : Int)] w fun e w' => e = .returned (.tuple #[]) ∧ ∃ v' l', En w' B a v' l' S ∧ Rc.Is l' ⟨f.L + b, Q, f.k⟩ ∧ Chg (Foot a v) w w' ∧ Moved w v v' := by
  refine (add_any B a v l.s l.h l.r l.t S b w hE hI.ht hb (fun hc => ?_) (by have := hI.len; omega) hB).mono ?_
  · obtain ⟨P, A, B', M, hP, hM, hA, hB', hv, hf⟩ := hI.parts
    rcases Nat.lt_or_ge l.h 255 with c | c
    · exact c
    · exfalso
      have h1 : 255 * P ≤ l.h * P := Nat.mul_le_mul_right _ c
      clear hP hA
      omega
  · rintro x w' ⟨he, v', hE', hC, hM⟩
    exact ⟨he, v', _, hE', Rc.add_is hI hb hQ h0 (by omega), hC, hM⟩
end Go.Proofs.Ytibgjpifmpljkaa
