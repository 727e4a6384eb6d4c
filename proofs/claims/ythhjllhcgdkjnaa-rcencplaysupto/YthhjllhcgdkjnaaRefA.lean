/- The contracts of the document's adds and widens; of no statement by themselves. -/
import Derived.Test.YthhjllhcgdkjnaaRefE
import Derived.Great.BuildSlice
namespace Go.Proofs.Ythhjllhcgdkjnaa
open Go.RowKit
set_option linter.unusedVariables false

/-- One digit is written. -/
theorem Re.put {w : World} {B r g cap R k : Nat} {ds : List Nat} (h : Re w B r (.slice (some ⟨g, 0, none⟩) ds.length cap) ds R k) (j q : Nat) (hj : j < ds.length) (hq : q < 256) :
    Re (w.setCell ⟨g, j, none⟩ (.int .u8 (q : Int))) B r (.slice (some ⟨g, 0, none⟩) ds.length cap) (ds.set j q) R k ∧ Chg (fun z => (Value.slice (some ⟨g, 0, none⟩) ds.length cap).ownBlock = some z) w (w.setCell ⟨g, j, none⟩ (.int .u8 (q : Int))) := by
  have c1 : Chg (fun k => k = g) w (w.setCell ⟨g, j, none⟩ (.int .u8 (q : Int))) := (Chg.refl (fun k => k = g) w).setCell (p := ⟨g, j, none⟩) (.inl rfl) _
  refine ⟨⟨h.hr, blk_keep h.blk c1 (fun e => ?_), ?_, ?_⟩, ?_⟩
  · obtain ⟨cur, hcur⟩ := owns_blk h.own (g := g) rfl
    rw [e] at h
    exact ty_ne hcur h.blk (by decide)
  · have := own_set h.own j (.int .u8 (q : Int)) hj
    rw [ins_set, nums_set] at this
    rw [List.length_set]
    exact this
  · intro x hx
    rcases List.mem_or_eq_of_mem_set hx with e | e
    · exact h.dig x e
    · subst e; exact hq
  · exact c1.mono (fun i e => .inl (by subst e; rfl))

theorem take_at (ds ts : List Nat) (j : Nat) (hj : j < ds.length) : (ds.take (j + 1) ++ ts)[j]? = some ds[j] := by
  rw [List.getElem?_append_left (by simp; omega), List.getElem?_take]
  simp [hj]
theorem take_set (ds ts : List Nat) (j q : Nat) (hj : j < ds.length) : (ds.take (j + 1) ++ ts).set j q = ds.take j ++ q :: ts := by
  rw [List.take_succ_eq_append_getElem hj, List.append_assoc, List.set_append_right _ _ (by simp; omega)]
  have : j - (ds.take j).length = 0 := by simp; omega
  rw [this]
  rfl

set_option maxHeartbeats 2000000 in
set_option maxRecDepth 100000 in
theorem adds_any (B r : Nat) (v : Value) (ds : List Nat) (R k x : Nat) (w0 : World) (h : Re w0 B r v ds R k) (hx : x ≤ 4294967295) (hl : ds.length ≤ 140737488355328) (hp : 0 < ds.length) (hfit : x + Rc.val ds < 256 ^ ds.length) :
    Calls Try.prog 47 #[.pointer (some ⟨r, 0, none⟩), .int .u32 (x : Int)] w0 fun e w' => e = .returned (.tuple #[]) ∧ Re w' B r v (Rc.dg ds.length (Rc.val ds + x)) R k ∧ Chg (fun z => v.ownBlock = some z) w0 w' := by
  obtain ⟨g, cap, rfl, hnc, _, _, _, _, _⟩ := own_some h.own hp
  have hca := (cells3 h.blk).1
  have HD : Hid (Rc.Dig ds) := h.dig
  have HF : Hid (x + Rc.val ds < 256 ^ ds.length) := hfit
  have hst : Re w0 B r (.slice (some ⟨g, 0, none⟩) ds.length cap) (ds.take ds.length ++ []) R k := by rw [List.take_length, List.append_nil]; exact h
  have HE : Hid (x * 256 ^ (ds.length - ds.length) + Rc.val [] = x + Rc.val (ds.drop ds.length)) := by show _ = _; simp [Rc.val]
  clear h hfit
  generalize hN : ds.length = n at *
  have HN : Hid (ds.length = n) := hN
  clear hN
  go_enter Try.func47, Try.ntmps47
  go_wp2_with fail
  go_loopw [4, 5] (fun cv iv wr => ∃ (m c : Nat) (ts : List Nat), m ≤ n ∧ iv = .int .i64 ((m : Int) - 1) ∧ cv = .int .u64 (c : Int) ∧ c ≤ 4294967295 ∧ Re wr B r (.slice (some ⟨g, 0, none⟩) n cap) (ds.take m ++ ts) R k ∧ Hid (ts.length = n - m) ∧ Hid (c * 256 ^ (n - m) + Rc.val ts = x + Rc.val (ds.drop m)) ∧ Chg (fun z => (Value.slice (some ⟨g, 0, none⟩) n cap).ownBlock = some z) w0 wr) (fun _ iv _ => (intOf iv + 1).toNat)
  case atStart => exact ⟨n, x, [], Nat.le_refl _, rfl, rfl, hx, hst, by show 0 = n - n; omega, HE.out, Chg.refl _ _⟩
  case round =>
    clear hst hca HE
    obtain ⟨m, c, ts, hm, rfl, rfl, hc, hR, HL, HS, hC⟩ := hrel
    cases m with
    | zero =>
      have hR2 : Re wr B r (.slice (some ⟨g, 0, none⟩) n cap) ts R k := by simpa using hR
      have HR2 : Hid (Re wr B r (.slice (some ⟨g, 0, none⟩) n cap) (Rc.dg n (Rc.val ds + x)) R k) := by
        have h1 := HS.out
        have h2 := HL.out
        have h3 := HF.out
        rw [Nat.sub_zero] at h1 h2
        rw [List.drop_zero] at h1
        have hc0 : c = 0 := by
          rcases Nat.eq_zero_or_pos c with e | e
          · exact e
          · have := Nat.mul_le_mul_right (256 ^ n) e
            omega
        subst hc0
        have e1 : Rc.dg n (Rc.val ds + x) = ts := by
          rw [← h2, show Rc.val ds + x = Rc.val ts by omega]
          exact Rc.dg_val hR2.dig
        show Re _ _ _ _ _ _ _
        rw [e1]
        exact hR2
      clear hR hR2 HS
      go_wp2
      go_end0
      exact ⟨rfl, HR2.out, hC⟩
    | succ j =>
      have hj : j < ds.length := by have := HN.out; omega
      have hlen : (ds.take (j + 1) ++ ts).length = n := by have := HL.out; have := HN.out; simp; omega
      have hca := (cells3 hR.blk).1
      have hR1 := hR
      rw [← hlen] at hR1
      obtain ⟨g2, cap2, e2, _, _, _, _, hfz, hcell⟩ := own_some hR1.own (by omega)
      simp only [Value.slice.injEq, Option.some.injEq, Addr.mk.injEq, true_and, and_true] at e2
      obtain ⟨rfl, _⟩ := e2
      have hd : ds[j] < 256 := HD.out _ (List.getElem_mem hj)
      have hx1 := hcell j (.int .u8 (ds[j] : Int)) (by
        have := take_at ds ts j hj
        simp only [ins, nums, List.map_map, List.getElem?_map, this]
        rfl)
      have hz1 := hfz j
      have HP : Hid (Re (wr.setCell ⟨g, j, none⟩ (.int .u8 (((c + ds[j]) % 256 : Nat) : Int))) B r (.slice (some ⟨g, 0, none⟩) n cap) (ds.take j ++ (c + ds[j]) % 256 :: ts) R k ∧ Chg (fun z => (Value.slice (some ⟨g, 0, none⟩) n cap).ownBlock = some z) w0 (wr.setCell ⟨g, j, none⟩ (.int .u8 (((c + ds[j]) % 256 : Nat) : Int)))) := by
        obtain ⟨p1, p2⟩ := hR1.put j ((c + ds[j]) % 256) (by omega) (Nat.mod_lt _ (by omega))
        rw [take_set ds ts j _ hj, hlen] at p1
        rw [hlen] at p2
        exact ⟨p1, hC.trans p2 (fun _ e => .inl e)⟩
      have HS2 : Hid ((c + ds[j]) / 256 * 256 ^ (n - j) + Rc.val ((c + ds[j]) % 256 :: ts) = x + Rc.val (ds.drop j)) := by
        have h1 := HS.out
        have h2 := HL.out
        have e1 : n - j = n - (j + 1) + 1 := by omega
        have e3 : (ds.drop (j + 1)).length = n - (j + 1) := by have := HN.out; simp; omega
        show _ = _
        rw [List.drop_eq_getElem_cons hj, e1]
        simp only [Rc.val]
        rw [h2, e3]
        exact Rc.sum_step _ _ _ _ _ _ h1
      have HL2 : Hid (((c + ds[j]) % 256 :: ts).length = n - j) := by have := HL.out; show _ = _; simp; omega
      clear hR hR1 hcell hfz HS HL hlen hC
      generalize ds[j] = d at *
      go_wp2
      go_roundw
      case rel => exact ⟨j, (c + d) / 256, (c + d) % 256 :: ts, by omega, by go_num, by go_num, by omega, HP.out.1, HL2.out, HS2.out, HP.out.2⟩
      case measure => simp [intOf]

set_option maxHeartbeats 1000000 in
set_option maxRecDepth 100000 in
theorem widens_no (B r : Nat) (v : Value) (ds : List Nat) (R k : Nat) (w : World) (h : Re w B r v ds R k) (hR : 16777216 ≤ R) (hR2 : R ≤ 4294967295) : Calls Try.prog 48 #[.pointer (some ⟨r, 0, none⟩)] w fun e w' => e = .returned (.tuple #[]) ∧ w = w' := by
  have c1 := (cells3 h.blk).2.1
  clear h
  obtain ⟨z, hz⟩ : ∃ z : Int, z = (R : Int) := ⟨_, rfl⟩
  have h1 : 16777216 ≤ z := by omega
  have h2 : z ≤ 4294967295 := by omega
  rw [← hz] at c1
  clear hz hR hR2
  have hd : decide (z < 16777216) = false := by simp; omega
  go_enter Try.func48, Try.ntmps48
  go_wp2_with fail
  refine wp_loop_rounds 1 ?_
  rw [rounds_succ]
  go_wp2
  go_end0
  exact ⟨rfl, rfl⟩

theorem from_one8 (w : World) (x : Value) (t : TypeId) : From (w.alloc (.cells #[x] t)) (some ⟨w.heap.size, 0, none⟩) 1 1 1 [x] := by
  refine ⟨rfl, .inr ⟨_, rfl, fun j u hu => ?_⟩⟩
  have hb : (w.alloc (.cells #[x] t)).heap[w.heap.size]? = some (.cells #[x] t (0, 0)) := heap_alloc_last _ _
  match j, hu with
  | 0, hu =>
    simp at hu
    subst hu
    rw [addk]
    exact cell00 hb

theorem set_size (w : World) (p : Addr) (v : Value) : (w.setCell p v).heap.size = w.heap.size := by simp [World.setCell]
theorem from_set8 (w : World) (p : Addr) (v x : Value) (t : TypeId) : From ((w.setCell p v).alloc (.cells #[x] t)) (some ⟨w.heap.size, 0, none⟩) 1 1 1 [x] := by
  have h := from_one8 (w.setCell p v) x t
  rw [set_size] at h
  exact h

/-- Behind one round of widening. -/
theorem widened {w w2 : World} {B r R k : Nat} {v v2 : Value} {ds : List Nat} (h : Re w B r v ds R k) (ho : w2.ownsRow B 5 1 v2 (ds.length + 1) (ins .u8 (nums ds) ++ [.int .u8 0])) (hg : ((w.setCell ⟨r, 1, none⟩ (.int .u32 ((R : Int) * 256))).alloc (.cells #[.int .u8 0] 5)).grownBy w2 v.ownBlock) :
    w2.heap[r]? = some (.cells #[v, .int .u32 ((R : Int) * 256), .int .i64 (k : Int)] 94 (0, 0)) ∧ Re ((w2.setCell ⟨r, 0, none⟩ v2).setCell ⟨r, 2, none⟩ (.int .i64 ((k : Int) + 1))) B r v2 (ds ++ [0]) (256 * R) (k + 1) ∧ Chg (Foot r v) w ((w2.setCell ⟨r, 0, none⟩ v2).setCell ⟨r, 2, none⟩ (.int .i64 ((k : Int) + 1))) := by
  have b1 : (w.setCell ⟨r, 1, none⟩ (.int .u32 ((R : Int) * 256))).heap[r]? = some (.cells #[v, .int .u32 ((R : Int) * 256), .int .i64 (k : Int)] 94 (0, 0)) := blk_setk (l := [v, .int .u32 (R : Int), .int .i64 (k : Int)]) h.blk 1 _
  have c1 : Chg (fun z => z = r) w (w.setCell ⟨r, 1, none⟩ (.int .u32 ((R : Int) * 256))) := (Chg.refl (fun z => z = r) w).setCell (p := ⟨r, 1, none⟩) (.inl rfl) _
  have c2 := chg_one (w.setCell ⟨r, 1, none⟩ (.int .u32 ((R : Int) * 256))) (.cells #[.int .u8 0] 5)
  have c3 : Chg (fun z => v.ownBlock = some z) _ w2 := (Chg.refl _ ((w.setCell ⟨r, 1, none⟩ (.int .u32 ((R : Int) * 256))).alloc (.cells #[.int .u8 0] 5))).grown hg (fun k e => .inl e)
  have nv : ∀ {t : TypeId} {cs : Array Value} {W : World} {n : Nat} {u : Value} {xs : List Value}, W.ownsRow B 5 1 u n xs → W.heap[r]? = some (.cells cs t (0, 0)) → t ≠ 5 → u.ownBlock ≠ some r := fun ho hb ht e => by
    obtain ⟨cur, hcur⟩ := owns_blk ho e
    exact ty_ne hb hcur ht
  have o1 := ownsRow_keep h.own c1 (fun g e e2 => nv h.own h.blk (by decide) (by rw [← e2]; exact e))
  have b2 := blk_keep b1 c2 (fun f => f)
  have o2 := ownsRow_keep o1 c2 (fun _ _ f => f)
  have b3 := blk_keep b2 c3 (nv o2 b2 (by decide))
  have c4 : Chg (fun z => z = r) w2 (w2.setCell ⟨r, 0, none⟩ v2) := (Chg.refl (fun z => z = r) w2).setCell (p := ⟨r, 0, none⟩) (.inl rfl) _
  have c5 : Chg (fun z => z = r) (w2.setCell ⟨r, 0, none⟩ v2) ((w2.setCell ⟨r, 0, none⟩ v2).setCell ⟨r, 2, none⟩ (.int .i64 ((k : Int) + 1))) := (Chg.refl (fun z => z = r) (w2.setCell ⟨r, 0, none⟩ v2)).setCell (p := ⟨r, 2, none⟩) (.inl rfl) _
  have c45 := c4.trans c5 (fun _ e => .inl e)
  have b4 : (w2.setCell ⟨r, 0, none⟩ v2).heap[r]? = some (.cells #[v2, .int .u32 ((R : Int) * 256), .int .i64 (k : Int)] 94 (0, 0)) := blk_setk (l := [v, .int .u32 ((R : Int) * 256), .int .i64 (k : Int)]) b3 0 _
  have b5 := blk_setk (l := [v2, .int .u32 ((R : Int) * 256), .int .i64 (k : Int)]) b4 2 (.int .i64 ((k : Int) + 1))
  have e1 : ((256 * R : Nat) : Int) = (R : Int) * 256 := by omega
  have e2 : ((k + 1 : Nat) : Int) = (k : Int) + 1 := by omega
  refine ⟨b3, ⟨h.hr, by rw [e1, e2]; exact b5, ?_, ?_⟩, ?_⟩
  · have e : ins .u8 (nums (ds ++ [0])) = ins .u8 (nums ds) ++ [.int .u8 0] := by simp [ins, nums]
    rw [List.length_append, e]
    exact ownsRow_keep ho c45 (fun g e e2 => nv ho b3 (by decide) (by rw [← e2]; exact e))
  · intro x hx
    rcases List.mem_append.1 hx with e | e
    · exact h.dig x e
    · simp at e; omega
  · exact (((c1.mono (T := Foot r v) (fun _ e => .inl (.inl e))).trans c2 (fun _ f => f.elim)).trans c3 (fun _ e => .inl (.inr e))).trans c45 (fun _ e => .inl (.inl e))

set_option maxHeartbeats 2000000 in
set_option maxRecDepth 100000 in
theorem widens_yes (B r : Nat) (v : Value) (ds : List Nat) (R k : Nat) (w : World) (h : Re w B r v ds R k) (hR1 : 65536 ≤ R) (hR2 : R < 16777216) (hk : k ≤ 4611686018427387904) (hl : ds.length < 140737488355328) (hB : B ≤ w.heap.size) :
    Calls Try.prog 48 #[.pointer (some ⟨r, 0, none⟩)] w fun e w' => e = .returned (.tuple #[]) ∧ ∃ v', Re w' B r v' (ds ++ [0]) (256 * R) (k + 1) ∧ Chg (Foot r v) w w' ∧ Moved w v v' := by
  obtain ⟨i0, hi, hz0, hz1, hz2⟩ := info_parts infoU8
  have HW : Hid (∀ (v2 : Value) (w2 : World), w2.ownsRow B 5 1 v2 (ds.length + 1) (ins .u8 (nums ds) ++ [.int .u8 0]) → ((w.setCell ⟨r, 1, none⟩ (.int .u32 ((R : Int) * 256))).alloc (.cells #[.int .u8 0] 5)).grownBy w2 v.ownBlock → w2.heap[r]? = some (.cells #[v, .int .u32 ((R : Int) * 256), .int .i64 (k : Int)] 94 (0, 0)) ∧ Re ((w2.setCell ⟨r, 0, none⟩ v2).setCell ⟨r, 2, none⟩ (.int .i64 ((k : Int) + 1))) B r v2 (ds ++ [0]) (256 * R) (k + 1) ∧ Chg (Foot r v) w ((w2.setCell ⟨r, 0, none⟩ v2).setCell ⟨r, 2, none⟩ (.int .i64 ((k : Int) + 1)))) := fun v2 w2 ho hg => widened h ho hg
  have HN : Hid (∀ (W : World) (u : Value) (es : List Nat), Re W B r u es (256 * R) (k + 1) → W.cell? ⟨r, 1, none⟩ = some (.int .u32 ((R : Int) * 256))) := fun W u es hW => by
    have e1 : ((256 * R : Nat) : Int) = (R : Int) * 256 := by omega
    rw [← e1]
    exact (cells3 hW.blk).2.1
  obtain ⟨ad, cap, hv, _⟩ := own_any h.own
  have HV : Hid (v = .slice ad ds.length cap) := hv
  obtain ⟨k0, k1, k2, kf⟩ := cells3 h.blk
  rw [hv] at k0
  have f1 := kf 1
  have c1 : Chg (fun z => z = r) w (w.setCell ⟨r, 1, none⟩ (.int .u32 ((R : Int) * 256))) := (Chg.refl (fun z => z = r) w).setCell (p := ⟨r, 1, none⟩) (.inl rfl) _
  have o1 := ownsRow_keep h.own c1 (fun g e e2 => by obtain ⟨cur, hcur⟩ := owns_blk h.own e; rw [e2] at hcur; exact ty_ne h.blk hcur (by decide))
  have o2 := o1.alloc (.cells #[.int .u8 0] 5)
  rw [hv] at o2
  have hfr := from_set8 w ⟨r, 1, none⟩ (.int .u32 ((R : Int) * 256)) (.int .u8 0) 5
  have hone : ∀ u ∈ [Value.int .u8 0], u.oneCell' = true := fun u hu => by simp at hu; subst hu; rfl
  have hsz : B ≤ ((w.setCell ⟨r, 1, none⟩ (.int .u32 ((R : Int) * 256))).alloc (.cells #[.int .u8 0] 5)).heap.size := by
    have := (chg_one (w.setCell ⟨r, 1, none⟩ (.int .u32 ((R : Int) * 256))) (.cells #[.int .u8 0] 5)).size
    rw [set_size] at this
    omega
  have HM : Hid (∀ (v2 : Value), Moved ((w.setCell ⟨r, 1, none⟩ (.int .u32 ((R : Int) * 256))).alloc (.cells #[.int .u8 0] 5)) v v2 → Moved w v v2) := fun v2 hm g e => by
    rcases hm g e with e | e
    · exact .inl e
    · have := (chg_one (w.setCell ⟨r, 1, none⟩ (.int .u32 ((R : Int) * 256))) (.cells #[.int .u8 0] 5)).size
      rw [set_size] at this
      exact .inr (by omega)
  clear h hv c1 o1 kf
  generalize hz : (R : Int) = z at *
  have z1 : 65536 ≤ z := by omega
  have z2 : z < 16777216 := by omega
  clear hz hR1 hR2
  go_enter Try.func48, Try.ntmps48
  go_wp2_with fail
  go_loopw [2] (fun _ wr => wr = w ∨ ∃ v', Re wr B r v' (ds ++ [0]) (256 * R) (k + 1) ∧ Chg (Foot r v) w wr ∧ Moved w v v') (fun _ wr => match wr.cell? ⟨r, 1, none⟩ with | some (.int _ q) => (16777216 - q).toNat | _ => 0)
  case atStart => exact .inl rfl
  case round =>
    rcases hrel with rfl | ⟨v', hR, hC, hM⟩
    · go_wp2_with (at_builtin; refine wpList_append_moved rfl _ _ 29 rfl B 5 i0 (.int .u8 0) 1 1 Try.underlying29 hi hz0 hz1 hz2 rfl (by decide) _ ds.length (ins .u8 (nums ds)) rfl (some ⟨wr.heap.size, 0, none⟩) 1 1 rfl [.int .u8 0] o2 hfr hone (by unfold maxLen; omega) (by omega) hsz ?_)
      intro v2 w2 ho hg hm
      rw [← HV.out] at hg hm
      obtain ⟨hb2, hR2, hC2⟩ := HW.out v2 w2 ho hg
      have HM2 : Hid (Moved wr v v2) := HM.out v2 hm
      have HR2 : Hid (Re ((w2.setCell ⟨r, 0, none⟩ v2).setCell ⟨r, 2, none⟩ (.int .i64 ((k : Int) + 1))) B r v2 (ds ++ [0]) (256 * R) (k + 1)) := hR2
      have HC2 : Hid (Chg (Foot r v) wr ((w2.setCell ⟨r, 0, none⟩ v2).setCell ⟨r, 2, none⟩ (.int .i64 ((k : Int) + 1)))) := hC2
      have HQ : Hid (((w2.setCell ⟨r, 0, none⟩ v2).setCell ⟨r, 2, none⟩ (.int .i64 ((k : Int) + 1))).cell? ⟨r, 1, none⟩ = some (.int .u32 (z * 256))) := HN.out _ _ _ hR2
      obtain ⟨m0, m1, m2, mf⟩ := cells3 hb2
      have g0 := mf 0
      have g2 := mf 2
      obtain ⟨ad2, cap2, hv2, _⟩ := own_any ho
      subst hv2
      clear ho hg hm hR2 hC2 hb2 mf o2 hfr hone hsz
      go_wp2

      go_roundw
      case rel => exact .inr ⟨_, HR2.out, HC2.out, HM2.out⟩
      case measure => rw [HQ.out, k1]; simp; omega
    · have n1 := HN.out _ _ _ hR
      have hd : decide (z * 256 < 16777216) = false := by simp; omega
      clear k0 k1 k2 f1 o2 hfr hone hsz
      go_wp2
      go_end0
      exact ⟨rfl, v', hR, hC, hM⟩
end Go.Proofs.Ythhjllhcgdkjnaa
