/- Several texts in one, none of a statement by itself: Tb, Tc, Td, Te. -/
import Derived.Test.YtibgjpifmpljkaaTa
import Derived.Deep.DeepCutAuto
import Derived.Test.YtibgjpifmpljkaaBoundC
/- The contracts of the document's refused, bits and Way; of no statement by themselves. -/
namespace Go.Proofs.Ytibgjpifmpljkaa
open Go.RowKit
set_option linter.unusedVariables false

theorem infoInt : (Try.prog.info? 3).map (fun i => (i.zero, i.size, i.bytes)) = some (some (.int .i64 0), 1, 8) := by kernel_rfl
theorem infoStep : (Try.prog.info? 125).map (fun i => (i.zero, i.size, i.bytes)) = some (some (.agg #[.int .i64 0, .int .i64 0]), 2, 16) := by kernel_rfl

set_option maxHeartbeats 2000000 in
set_option maxRecDepth 100000 in
theorem refused_any (B r : Nat) (m p n v : Int) (u : Value) (xs : List Int) (len : Nat) (w0 : World) (h : Rt w0 B r m u xs) (hl : xs.length = len) (hlen : len ≤ 1048576) (hp : I64 p) (hn : I64 n) : Calls Try.prog 80 #[.pointer (some ⟨r, 0, none⟩), .int .i64 p, .int .i64 n, .int .i64 v] w0 fun e w' => e = .returned (.bool (!decide (Fits len p n v))) ∧ Chg (fun _ => False) w0 w' := by
  have HTH : Hid _ := there_any B r m p n u xs len w0 h hl hlen hp hn
  clear h hl hlen hp hn
  by_cases hs : Stands len p n
  · have e1 : decide (Stands len p n) = true := decide_eq_true hs
    rw [e1] at HTH
    by_cases hv0 : v < 0
    · have e2 : decide (Fits len p n v) = false := decide_eq_false (fun f => by have := f.2.1; omega)
      rw [e2]
      have hd : decide (v < 0) = true := by simp; omega
      clear e1 e2 hs
      go_enter Try.func80, Try.ntmps80
      go_wp2_with fail
      refine Calls.mono HTH.out ?_
      rintro z w1 ⟨rfl, c1⟩
      go_wp2
      go_ret
      exact ⟨rfl, c1⟩
    · obtain ⟨N, hN⟩ : ∃ N : Nat, (N : Int) = n := ⟨n.toNat, by have := hs.1; omega⟩
      subst hN
      obtain ⟨Y, hY⟩ : ∃ Y : Nat, Y = 2 ^ N := ⟨_, rfl⟩
      have hN16 : N ≤ 16 := by have := hs.2.1; omega
      have e3 : (2 : Int) ^ ((N : Int).toNat) = (Y : Int) := by rw [Int.toNat_natCast, hY]; simp
      have e2 : decide (Fits len p (N : Int) v) = decide (v < (Y : Int)) := decide_eq_decide.2 ⟨fun f => by have := f.2.2; rw [e3] at this; exact this, fun f => ⟨hs, by omega, by rw [e3]; exact f⟩⟩
      rw [e2]
      have HTW : Hid (∀ w, Calls Try.prog 91 #[.int .i64 (N : Int)] w fun e w' => e = .returned (.int .i64 (Y : Int)) ∧ w = w') := two_any N Y hN16 hY
      have hd : decide (v < 0) = false := by simp; omega
      have hge : 0 ≤ v := by omega
      clear e1 e2 hs e3 hY hN16 hv0
      by_cases hv : v < (Y : Int)
      · have hd2 : decide ((Y : Int) ≤ v) = false := by simp; omega
        have hd3 : decide (v < (Y : Int)) = true := by simp; omega
        rw [hd3]
        go_enter Try.func80, Try.ntmps80
        go_wp2_with fail
        refine Calls.mono HTH.out ?_
        rintro z w1 ⟨rfl, c1⟩
        go_wp2_with fail
        refine (HTW.out _).mono ?_
        rintro z w2 ⟨rfl, rfl⟩
        go_wp2
        go_ret
        exact ⟨rfl, c1⟩
      · have hd2 : decide ((Y : Int) ≤ v) = true := by simp; omega
        have hd3 : decide (v < (Y : Int)) = false := by simp; omega
        have hle : (Y : Int) ≤ v := by omega
        rw [hd3]
        go_enter Try.func80, Try.ntmps80
        go_wp2_with fail
        refine Calls.mono HTH.out ?_
        rintro z w1 ⟨rfl, c1⟩
        go_wp2_with fail
        refine (HTW.out _).mono ?_
        rintro z w2 ⟨rfl, rfl⟩
        go_wp2
        go_ret
        exact ⟨rfl, c1⟩
  · have e1 : decide (Stands len p n) = false := decide_eq_false hs
    have e2 : decide (Fits len p n v) = false := decide_eq_false (fun f => hs f.1)
    rw [e1] at HTH
    rw [e2]
    clear e1 e2 hs
    go_enter Try.func80, Try.ntmps80
    go_wp2_with fail
    refine Calls.mono HTH.out ?_
    rintro z w1 ⟨rfl, c1⟩
    go_wp2
    go_ret
    exact ⟨rfl, c1⟩

theorem form1i {w : World} {B : Nat} {t : TypeId} {lv : Value} {n : Nat} {xs : List Value} (h : w.ownsRow B t 1 lv n xs) : ∃ a c, lv = .slice a n c := by
  rcases h.2 with ⟨rfl, rfl⟩ | ⟨g, cap, cur, rfl, _⟩
  · exact ⟨none, 0, rfl⟩
  · exact ⟨_, cap, rfl⟩
set_option maxHeartbeats 2000000 in
set_option maxRecDepth 100000 in
theorem bits_any (n v : Nat) (back : Bool) (hn : n ≤ 16) (hv : v ≤ 65535) (w0 : World) : Calls Try.prog 82 #[.int .i64 (n : Int), .int .i64 (v : Int), .bool back] w0 fun e w' => ∃ lv, e = .returned lv ∧ w'.ownsRow w0.heap.size 3 1 lv n (ins .i64 (nums (bitsOf back n v))) ∧ Chg (fun _ => False) w0 w' := by
  go_enter Try.func82, Try.ntmps82
  go_wp2_with fail
  go_loopw [7, 8] (fun lv iv wr => ∃ k : Nat, k ≤ n ∧ iv = .int .i64 (k : Int) ∧ Hid (wr.ownsRow w0.heap.size 3 1 lv k (ins .i64 (nums ((bitsOf back n v).take k)))) ∧ Hid (Chg (fun _ => False) w0 wr)) (fun _ iv _ => n - (intOf iv).toNat)
  case atStart => exact ⟨0, Nat.zero_le _, rfl, World.ownsRow_nil _ _ _ _, Chg.refl _ _⟩
  case round =>
    obtain ⟨k, hk, rfl, HR, HC⟩ := hrel
    obtain ⟨la, lc, hlv⟩ := form1i HR.out
    subst hlv
    by_cases hlt : k < n
    · obtain ⟨j, hj⟩ : ∃ j : Nat, j = if back then k else n - 1 - k := ⟨_, rfl⟩
      have hj16 : j ≤ 16 := by rw [hj]; split <;> omega
      obtain ⟨Y, hY⟩ : ∃ Y : Nat, Y = 2 ^ j := ⟨_, rfl⟩
      have hY0 : 0 < Y := by rw [hY]; exact Nat.pow_pos (by omega)
      have HB : Hid (bitAt back n v k = v / Y % 2) := by show _ = _; unfold bitAt; rw [hY, hj]; cases back <;> rfl
      have HTW : Hid (∀ w, Calls Try.prog 91 #[.int .i64 (j : Int)] w fun e w' => e = .returned (.int .i64 (Y : Int)) ∧ w = w') := two_any j Y hj16 hY
      obtain ⟨b, hb⟩ : ∃ b : Nat, b = v / Y % 2 := ⟨_, rfl⟩
      have HBB : Hid (bitAt back n v k = b) := by show _ = _; rw [HB.out, hb]
      obtain ⟨q, hq⟩ : ∃ q : Nat, q = v / Y := ⟨_, rfl⟩
      have hq2 : (v : Int).tdiv (Y : Int) = (q : Int) := by rw [hq, Int.tdiv_eq_ediv_of_nonneg (by omega)]; simp
      have hq3 : (v : Int) / (Y : Int) = (q : Int) := by rw [hq]; simp
      have hb2 : (q : Int).tmod 2 = (b : Int) := by rw [hb, ← hq, Int.tmod_eq_emod_of_nonneg (by omega)]; omega
      have hb3 : (q : Int) % 2 = (b : Int) := by rw [hb, ← hq]; omega
      have hyz : ¬ ((Y : Int) = 0) := by omega
      have hqv : q ≤ v := by rw [hq]; exact Nat.div_le_self _ _
      have hq4 : (q : Int) ≤ 65535 := by omega
      obtain ⟨jI, hjI, hjz, hj1, hj8⟩ := info_parts infoInt
      have HTK : Hid ((bitsOf back n v).take (k + 1) = (bitsOf back n v).take k ++ [b]) := by show _ = _; rw [List.take_add_one, bitsOf_at hlt, HBB.out]; rfl
      have HJ : Hid (j = if back then k else n - 1 - k) := hj
      clear hY hb hq hj HB hj16
      cases back with
      | true =>
        have hjv : (j : Int) = (k : Int) := by have := HJ.out; simp at this; omega
        obtain rfl : k = j := by omega
        have cB := chg_one wr (.cells #[.int .i64 (b : Int)] 3)
        have hown := ownsRow_keep HR.out cB (fun _ _ f => f)
        have hsz : w0.heap.size ≤ (wr.alloc (.cells #[.int .i64 (b : Int)] 3)).heap.size := Nat.le_trans HC.out.size cB.size
        have hsrc := from_one8 wr (.int .i64 (b : Int)) 3
        have HCB : Hid (Chg (fun _ => False) w0 (wr.alloc (.cells #[.int .i64 (b : Int)] 3))) := chg_then HC.out cB

        clear cB HJ
        go_wp2_with fail

        refine (HTW.out _).mono ?_
        rintro z w2 ⟨rfl, rfl⟩
        go_wp2_with (at_builtin; refine wpList_append_moved rfl _ _ 43 rfl w0.heap.size 3 jI (.int .i64 0) 1 8 Try.underlying43 hjI hjz hj1 hj8 rfl (by decide) _ k (ins .i64 (nums ((bitsOf true n v).take k))) rfl (some ⟨wr.heap.size, 0, none⟩) 1 1 rfl [.int .i64 (b : Int)] hown hsrc (fun u hu => by simp at hu; subst hu; rfl) (by unfold maxLen; omega) (by omega) hsz ?_)
        intro v9 w9 ho9 hg9 _
        have HR9 : Hid (w9.ownsRow w0.heap.size 3 1 v9 (k + 1) (ins .i64 (nums ((bitsOf true n v).take (k + 1))))) := by
          show World.ownsRow _ _ _ _ _ _ _
          rw [HTK.out]
          simpa [ins, nums] using ho9
        have HC9 : Hid (Chg (fun _ => False) w0 w9) := HCB.out.grown hg9 (fun z e => .inr (hown.lt z e).1)
        obtain ⟨la9, lc9, hv9⟩ := form1i HR9.out
        subst hv9
        clear ho9 hg9 hown hsrc
        go_wp2_with fail
        go_roundw
        case rel => exact ⟨k + 1, by omega, by go_num, HR9.out, HC9.out⟩
        case measure => simp [intOf]; omega
      | false =>
        have hjv : (j : Int) = (n : Int) - 1 - (k : Int) := by have := HJ.out; simp at this; omega

        have cB := chg_one wr (.cells #[.int .i64 (b : Int)] 3)
        have hown := ownsRow_keep HR.out cB (fun _ _ f => f)
        have hsz : w0.heap.size ≤ (wr.alloc (.cells #[.int .i64 (b : Int)] 3)).heap.size := Nat.le_trans HC.out.size cB.size
        have hsrc := from_one8 wr (.int .i64 (b : Int)) 3
        have HCB : Hid (Chg (fun _ => False) w0 (wr.alloc (.cells #[.int .i64 (b : Int)] 3))) := chg_then HC.out cB
        have hw1 : IntKind.i64.wrap ((n : Int) - 1) = (n : Int) - 1 := wr64 (by omega) (by omega)
        clear cB HJ
        go_wp2_with fail
        try rw [← hjv]
        refine (HTW.out _).mono ?_
        rintro z w2 ⟨rfl, rfl⟩
        go_wp2_with (at_builtin; refine wpList_append_moved rfl _ _ 43 rfl w0.heap.size 3 jI (.int .i64 0) 1 8 Try.underlying43 hjI hjz hj1 hj8 rfl (by decide) _ k (ins .i64 (nums ((bitsOf false n v).take k))) rfl (some ⟨wr.heap.size, 0, none⟩) 1 1 rfl [.int .i64 (b : Int)] hown hsrc (fun u hu => by simp at hu; subst hu; rfl) (by unfold maxLen; omega) (by omega) hsz ?_)
        intro v9 w9 ho9 hg9 _
        have HR9 : Hid (w9.ownsRow w0.heap.size 3 1 v9 (k + 1) (ins .i64 (nums ((bitsOf false n v).take (k + 1))))) := by
          show World.ownsRow _ _ _ _ _ _ _
          rw [HTK.out]
          simpa [ins, nums] using ho9
        have HC9 : Hid (Chg (fun _ => False) w0 w9) := HCB.out.grown hg9 (fun z e => .inr (hown.lt z e).1)
        obtain ⟨la9, lc9, hv9⟩ := form1i HR9.out
        subst hv9
        clear ho9 hg9 hown hsrc
        go_wp2_with fail
        go_roundw
        case rel => exact ⟨k + 1, by omega, by go_num, HR9.out, HC9.out⟩
        case measure => simp [intOf]; omega
    · have hkn : n = k := by omega
      subst hkn
      have hd : decide ((n : Int) < (n : Int)) = false := by simp
      have HR2 : Hid (wr.ownsRow w0.heap.size 3 1 (.slice la n lc) n (ins .i64 (nums (bitsOf back n v)))) := by
        have h9 := HR.out
        rw [List.take_of_length_le (by rw [bitsOf_len]; exact Nat.le_refl _)] at h9
        exact h9
      go_wp2
      go_ret
      exact ⟨_, rfl, HR2.out, HC.out⟩
end Go.Proofs.Ytibgjpifmpljkaa

/- The contracts of the document's Way and Put; of no statement by themselves. -/
namespace Go.Proofs.Ytibgjpifmpljkaa
open Go.RowKit
set_option linter.unusedVariables false

/-- A way as a list of places and bits, and as cells. -/
def wayP (p : Nat) : Nat → List Nat → List (Nat × Nat)
  | _, [] => []
  | m, b :: l => (p + m, b) :: wayP p (2 * m + b) l
def stepCells (x : Nat × Nat) : List Value := [.int .i64 (x.1 : Int), .int .i64 (x.2 : Int)]
theorem wayP_len (p : Nat) : ∀ (l : List Nat) (m : Nat), (wayP p m l).length = l.length
  | [], _ => rfl
  | b :: l, m => by simp [wayP, wayP_len p l]
theorem wayP_at (p : Nat) : ∀ (l : List Nat) (m k b : Nat), l[k]? = some b → (wayP p m l)[k]? = some (p + wayM m (l.take k), b)
  | [], m, k, b, h => by simp at h
  | x :: l, m, 0, b, h => by simp at h; subst h; rfl
  | x :: l, m, k + 1, b, h => by
    simp at h
    simp [wayP, wayM, wayP_at p l (2 * m + x) k b h]
theorem cells2_at : ∀ (l : List (Nat × Nat)) (k : Nat) (x : Nat × Nat) (j : Nat), l[k]? = some x → j < 2 → (l.flatMap stepCells)[k * 2 + j]? = (stepCells x)[j]?
  | [], k, q, j, h, _ => by simp at h
  | y :: ys, 0, q, j, h, hj => by
    rw [List.flatMap_cons, List.getElem?_append_left (by simp [stepCells]; omega)]
    simp at h
    subst h
    simp
  | y :: ys, k + 1, q, j, h, hj => by
    rw [List.flatMap_cons, List.getElem?_append_right (by simp [stepCells]; omega)]
    have e : (k + 1) * 2 + j - (stepCells y).length = k * 2 + j := by simp [stepCells]; omega
    rw [e]
    exact cells2_at ys k q j (by simpa using h) hj
theorem own_keep2 {w w' : World} {S : Nat → Prop} {B : Nat} {e : TypeId} {size : Nat} {v : Value} {n : Nat} {xs : List Value} (h : w.ownsRow B e size v n xs) (hc : Chg S w w') (hS : ∀ g, v.ownBlock = some g → ¬ S g) : w'.ownsRow B e size v n xs := by
  refine ⟨h.1, ?_⟩
  rcases h.2 with hn | ⟨g, cap, cur, rfl, hb, hgg, rest⟩
  · exact .inl hn
  · exact .inr ⟨g, cap, cur, rfl, hb, (hc.block g (lt_of_blk hgg) (hS g rfl)).trans hgg, rest⟩
theorem form2 {w : World} {B : Nat} {lv : Value} {n : Nat} {xs : List Value} (h : w.ownsRow B 125 2 lv n xs) : ∃ a c, lv = .slice a n c := by
  rcases h.2 with ⟨rfl, rfl⟩ | ⟨g, cap, cur, rfl, _⟩
  · exact ⟨none, 0, rfl⟩
  · exact ⟨_, cap, rfl⟩
theorem from_two (w : World) (x0 x1 : Value) (t : TypeId) : From (w.alloc (.cells #[x0, x1] t)) (some ⟨w.heap.size, 0, none⟩) 1 1 2 [x0, x1] := by
  refine ⟨rfl, .inr ⟨_, rfl, fun j u hu => ?_⟩⟩
  have hb : (w.alloc (.cells #[x0, x1] t)).heap[w.heap.size]? = some (.cells #[x0, x1] t (0, 0)) := heap_alloc_last _ _
  match j, hu with
  | 0, hu => simp at hu; subst hu; rw [addk]; exact cell0 hb
  | 1, hu => simp at hu; subst hu; rw [addk]; exact cell1 hb
/-- A step of a way of one's own. -/
theorem step_own {w : World} {B : Nat} {ad : Option Addr} {n c : Nat} {l : List (Nat × Nat)} {k : Nat} {x : Nat × Nat} (h : w.ownsRow B 125 2 (.slice ad n c) n (l.flatMap stepCells)) (hk : l[k]? = some x) : ∃ g, ad = some ⟨g, 0, none⟩ ∧ w.cell? ⟨g, k * 2, none⟩ = some (.int .i64 (x.1 : Int)) ∧ w.cell? ⟨g, k * 2 + 1, none⟩ = some (.int .i64 (x.2 : Int)) := by
  rcases h.2 with ⟨e0, e1⟩ | ⟨g, cap, cur, e0, _, hb, _, _, _, ht⟩
  · have h1 := h.1
    have h2 := (List.getElem?_eq_some_iff.1 hk).1
    have h3 : (l.flatMap stepCells).length = l.length * 2 := by
      clear h e0 e1 hk h1 h2
      induction l with
      | nil => rfl
      | cons y ys ih => rw [List.flatMap_cons, List.length_append, ih]; simp [stepCells]; omega
    omega
  · cases e0
    have key : ∀ j v, j < 2 → (stepCells x)[j]? = some v → w.cell? ⟨g, k * 2 + j, none⟩ = some v := fun j v hj hv => by
      have h1 := cells2_at l k x j hk hj
      rw [← ht, hv] at h1
      have h2 : cur.toList[k * 2 + j]? = some v := by
        rw [List.getElem?_take] at h1
        split at h1
        · exact h1
        · cases h1
      simp only [World.cell?, hb]
      simpa using h2
    exact ⟨g, rfl, key 0 _ (by omega) rfl, key 1 _ (by omega) rfl⟩

set_option maxHeartbeats 2000000 in
set_option maxRecDepth 100000 in
theorem way_any (p B : Nat) (lv : Value) (l : List Nat) (hp : p ≤ 1048576) (h01 : Bits01 l) (n : Nat) (hn : l.length = n) (hn16 : n ≤ 16) (w0 : World) (h : w0.ownsRow B 3 1 lv n (ins .i64 (nums l))) : Calls Try.prog 81 #[.int .i64 (p : Int), lv] w0 fun e w' => ∃ sv, e = .returned sv ∧ w'.ownsRow w0.heap.size 125 2 sv n ((wayP p 1 l).flatMap stepCells) ∧ Chg (fun _ => False) w0 w' := by
  have H0 : Hid (w0.ownsRow B 3 1 lv n (ins .i64 (nums l))) := h
  have HN : Hid (l.length = n) := hn
  obtain ⟨ia, ic, hlv⟩ := form1i h
  subst hlv
  clear h hn
  go_enter Try.func81, Try.ntmps81
  go_wp2_with fail
  go_loopw [5, 6, 7] (fun sv mv iv wr => ∃ k m : Nat, k ≤ n ∧ Hid (m = wayM 1 (l.take k)) ∧ mv = .int .i64 (m : Int) ∧ iv = .int .i64 (k : Int) ∧ Hid (wr.ownsRow w0.heap.size 125 2 sv k (((wayP p 1 l).take k).flatMap stepCells)) ∧ Hid (Chg (fun _ => False) w0 wr)) (fun _ _ iv _ => n - (intOf iv).toNat)
  case atStart => exact ⟨0, 1, Nat.zero_le _, rfl, rfl, rfl, World.ownsRow_nil _ _ _ _, Chg.refl _ _⟩
  case round =>
    obtain ⟨k, m, hk, HM, rfl, rfl, HR, HC⟩ := hrel
    obtain ⟨la, lc, hsv⟩ := form2 HR.out
    subst hsv
    by_cases hlt : k < n
    · obtain ⟨b, hb⟩ : ∃ b, l[k]? = some b := ⟨_, List.getElem?_eq_getElem (by rw [HN.out]; exact hlt)⟩
      have HB : Hid (l[k]? = some b) := hb
      have hb1 : b ≤ 1 := h01 b (List.mem_of_getElem? hb)
      have hmb : m < 131072 := by
        have h9 := (wayM_in (l.take k) 1 (fun x hx => h01 x (List.mem_of_mem_take hx))).2
        rw [List.length_take, HN.out, Nat.min_eq_left (by omega)] at h9
        have h8 : 2 ^ k ≤ 2 ^ 16 := Nat.pow_le_pow_right (by omega) (by omega)
        have := HM.out
        omega
      obtain ⟨g, cap, e, _, _, _, _, _, hcl⟩ := own_some (ownsRow_keep H0.out HC.out (fun _ _ f => f)) (by omega)
      cases e
      have hcell : wr.cell? ⟨g, k, none⟩ = some (.int .i64 (b : Int)) := hcl k _ (by simp [ins, nums, hb])
      obtain ⟨pm, hpm⟩ : ∃ pm : Nat, pm = p + m := ⟨_, rfl⟩
      have hpi : (p : Int) + (m : Int) = (pm : Int) := by omega
      have HTK : Hid (((wayP p 1 l).take (k + 1)).flatMap stepCells = ((wayP p 1 l).take k).flatMap stepCells ++ [.int .i64 (pm : Int), .int .i64 (b : Int)]) := by
        show _ = _
        rw [List.take_add_one, wayP_at p l 1 k b hb, ← HM.out, ← hpm]
        simp [stepCells]
      have HM2 : Hid (2 * m + b = wayM 1 (l.take (k + 1))) := by
        show _ = _
        rw [List.take_add_one, hb]
        simp only [Option.toList_some]
        rw [wayM_append, ← HM.out]
      obtain ⟨jI, hjI, hjz, hj1, hj8⟩ := info_parts infoStep
      have cB := chg_one wr (.cells #[.int .i64 (pm : Int), .int .i64 (b : Int)] 125)
      have hown := own_keep2 HR.out cB (fun _ _ f => f)
      have hsz : w0.heap.size ≤ (wr.alloc (.cells #[.int .i64 (pm : Int), .int .i64 (b : Int)] 125)).heap.size := Nat.le_trans HC.out.size cB.size
      have hsrc := from_two wr (.int .i64 (pm : Int)) (.int .i64 (b : Int)) 125
      have HCB : Hid (Chg (fun _ => False) w0 (wr.alloc (.cells #[.int .i64 (pm : Int), .int .i64 (b : Int)] 125))) := chg_then HC.out cB
      have HCEL : Hid ((wr.alloc (.cells #[.int .i64 (pm : Int), .int .i64 (b : Int)] 125)).cell? ⟨g, k, none⟩ = some (.int .i64 (b : Int))) := cell_chg hcell cB
      clear cB hcl hpm hb
      go_wp2_with (at_builtin; refine wpList_append_moved rfl _ _ 121 rfl w0.heap.size 125 jI (.agg #[.int .i64 0, .int .i64 0]) 2 16 Try.underlying121 hjI hjz hj1 hj8 rfl (by decide) _ k (((wayP p 1 l).take k).flatMap stepCells) rfl (some ⟨wr.heap.size, 0, none⟩) 1 1 rfl [.int .i64 (pm : Int), .int .i64 (b : Int)] hown hsrc (fun u hu => by simp at hu; rcases hu with rfl | rfl <;> rfl) (by unfold maxLen; omega) (by omega) hsz ?_)
      intro v9 w9 ho9 hg9 _
      have HR9 : Hid (w9.ownsRow w0.heap.size 125 2 v9 (k + 1) (((wayP p 1 l).take (k + 1)).flatMap stepCells)) := by
        show World.ownsRow _ _ _ _ _ _ _
        rw [HTK.out]
        exact ho9
      have HC9 : Hid (Chg (fun _ => False) w0 w9) := HCB.out.grown hg9 (fun z e => .inr (hown.lt z e).1)
      have hcell9 : w9.cell? ⟨g, k, none⟩ = some (.int .i64 (b : Int)) := by
        obtain ⟨g', cap', e', _, _, _, _, _, hcl'⟩ := own_some (ownsRow_keep H0.out HC9.out (fun _ _ f => f)) (by omega)
        cases e'
        exact hcl' k _ (by simp [ins, nums, HB.out])
      obtain ⟨la9, lc9, hv9⟩ := form2 HR9.out
      subst hv9
      have hm2 : IntKind.i64.wrap (2 * (m : Int)) = 2 * (m : Int) := wr64 (by omega) (by omega)
      clear ho9 hg9 hown hsrc hcell
      go_wp2_with fail
      go_roundw
      case rel => exact ⟨k + 1, 2 * m + b, by omega, HM2.out, by go_num, by go_num, HR9.out, HC9.out⟩
      case measure => simp [intOf]; omega
    · have hkn : n = k := by omega
      subst hkn
      have hd : decide ((n : Int) < (n : Int)) = false := by simp
      have HR2 : Hid (wr.ownsRow w0.heap.size 125 2 (.slice la n lc) n ((wayP p 1 l).flatMap stepCells)) := by
        have h9 := HR.out
        rw [List.take_of_length_le (by rw [wayP_len, HN.out]; exact Nat.le_refl _)] at h9
        exact h9
      go_wp2
      go_ret
      exact ⟨_, rfl, HR2.out, HC.out⟩
end Go.Proofs.Ytibgjpifmpljkaa

/- The contract of the document's Put; of no statement by itself. -/
namespace Go.Proofs.Ytibgjpifmpljkaa
open Go.RowKit
set_option linter.unusedVariables false

theorem wayQ_at (p : Nat) : ∀ (l : List Nat) (m k b : Nat), l[k]? = some b → (wayQ p m l)[k]? = some ⟨false, ((p + wayM m (l.take k) : Nat) : Int), 0, b⟩
  | [], m, k, b, h => by simp at h
  | x :: l, m, 0, b, h => by simp at h; subst h; rfl
  | x :: l, m, k + 1, b, h => by
    simp at h
    simp [wayQ, wayM, wayQ_at p l (2 * m + x) k b h]
theorem encL_drop {k : Nat} {l : List Q} {q : Q} (h : l[k]? = some q) (e : Rc.E) (xs : List Int) (hq : q.ok xs.length) : encL (l.drop k) e xs = encL (l.drop (k + 1)) (encE q e xs) (encX q xs) := by
  have h1 : k < l.length := (List.getElem?_eq_some_iff.1 h).1
  have h2 : l[k] = q := (List.getElem?_eq_some_iff.1 h).2
  rw [List.drop_eq_getElem_cons h1, h2, encL, if_pos hq]
theorem enc_bit {e : Rc.E} {xs : List Int} {j b : Nat} (hj : j < xs.length) (hb : b ≤ 1) : encE ⟨false, (j : Int), 0, b⟩ e xs = coded e xs[j] (b : Int) ∧ encX ⟨false, (j : Int), 0, b⟩ xs = xs.set j (Prob.nx xs[j] (b : Int)) := by
  have h1 : pAt xs (j : Int) = xs[j] := by unfold pAt; simp [hj]
  have h2 : b % 2 = b := by omega
  unfold encE encX pSet
  simp only [Bool.false_eq_true, if_false, h1, h2, Int.toNat_natCast]
  exact ⟨trivial, trivial⟩
theorem coded_k {e : Rc.E} {p b : Int} : (coded e p b).k ≤ e.k + 1 := by
  unfold coded
  exact (cut_k _ _ _).2
theorem fits_bits {len : Nat} {p n v : Int} (h : Fits len p n v) : p.toNat + 2 ^ n.toNat ≤ len ∧ n.toNat ≤ 16 ∧ v.toNat < 2 ^ n.toNat := by
  obtain ⟨⟨h1, h2, h3, h4⟩, h5, h6⟩ := h
  have e : ((2 ^ n.toNat : Nat) : Int) = (2 : Int) ^ n.toNat := by simp
  rw [← e] at h4 h6
  omega

structure PutR (w0 wr : World) (B B' r s : Nat) (m : Int) (v0 v us : Value) (e : Rc.E) (xs : List Int) : Prop where
  re : Re wr B r v (Rc.by_ e) e.R e.k
  rt : Rt wr B' s m us xs
  ok : Rc.Ok e
  inn : In31 xs
  chg : Chg (fun z => Foot r v0 z ∨ us.ownBlock = some z) w0 wr
  mov : Moved w0 v0 v
set_option maxHeartbeats 8000000 in
set_option maxRecDepth 100000 in
theorem refput_any (B B' r s : Nat) (m : Int) (v0 us : Value) (e0 : Rc.E) (xs0 : List Int) (p n x : Int) (back : Bool) (len : Nat) (w0 : World) (h : Re w0 B r v0 (Rc.by_ e0) e0.R e0.k) (hO : Rc.Ok e0) (hk0 : e0.k + 17 ≤ 70368744177664) (hB : B ≤ w0.heap.size) (hS : Rt w0 B' s m us xs0) (hI : In31 xs0) (hl : xs0.length = len) (hlen : len ≤ 1048576) (hp : I64 p) (hn : I64 n) :
    Calls Try.prog 57 #[.pointer (some ⟨r, 0, none⟩), .pointer (some ⟨s, 0, none⟩), .int .i64 p, .int .i64 n, .int .i64 x, .bool back] w0 fun z w' =>
      (¬ Fits len p n x ∧ z = .returned (.int .i64 7) ∧ Chg (fun _ => False) w0 w')
      ∨ (Fits len p n x ∧ z = .returned (.int .i64 0) ∧ ∃ v', PutR w0 w' B B' r s m v0 v' us (encL (wayQ p.toNat 1 (bitsOf back n.toNat x.toNat)) e0 xs0).1 (encL (wayQ p.toNat 1 (bitsOf back n.toNat x.toNat)) e0 xs0).2) := by
  have HRF : Hid _ := refused_any B' s m p n x us xs0 len w0 hS hl hlen hp hn
  by_cases hf : Fits len p n x
  rotate_left
  · have e1 : decide (Fits len p n x) = false := decide_eq_false hf
    rw [e1] at HRF
    have HF : Hid (¬ Fits len p n x) := hf
    clear e1 hf hO hk0 hS hI h
    go_enter Try.func57, Try.ntmps57
    go_wp2_with fail
    refine Calls.mono HRF.out ?_
    rintro z w1 ⟨rfl, c1⟩
    go_wp2
    go_ret
    exact .inl ⟨HF.out, rfl, c1⟩
  have e1 : decide (Fits len p n x) = true := decide_eq_true hf
  rw [e1] at HRF
  have HF : Hid (Fits len p n x) := hf
  obtain ⟨f1, f2, f3⟩ := fits_bits hf
  obtain ⟨P, hP⟩ : ∃ P : Nat, (P : Int) = p := ⟨p.toNat, by have := hf.1.2.2.1; omega⟩
  obtain ⟨N, hN⟩ : ∃ N : Nat, (N : Int) = n := ⟨n.toNat, by have := hf.1.1; omega⟩
  obtain ⟨X, hX⟩ : ∃ X : Nat, (X : Int) = x := ⟨x.toNat, by have := hf.2.1; omega⟩
  subst hP hN hX
  simp only [Int.toNat_natCast] at f1 f2 f3 ⊢
  have hX65 : X ≤ 65535 := by have := pow16 f2; omega
  obtain ⟨l, hll⟩ : ∃ l, bitsOf back N X = l := ⟨_, rfl⟩
  have HBT : Hid (∀ w, Calls Try.prog 82 #[.int .i64 (N : Int), .int .i64 (X : Int), .bool back] w fun e w' => ∃ lv, e = .returned lv ∧ w'.ownsRow w.heap.size 3 1 lv N (ins .i64 (nums l)) ∧ Chg (fun _ => False) w w') := fun w => by rw [← hll]; exact bits_any N X back f2 hX65 w
  have h01 : Bits01 l := by rw [← hll]; exact bitsOf_01 _ _ _
  have hlN : l.length = N := by rw [← hll]; exact bitsOf_len _ _ _
  have HOKQ : Hid (∀ q ∈ wayQ P 1 l, q.ok len) := wayQ_ok1 f1 h01 (by omega)
  have hP1 : P ≤ 1048576 := by omega
  rw [hll]
  have HRE : Hid (Re w0 B r v0 (Rc.by_ e0) e0.R e0.k) := h
  have HRT : Hid (Rt w0 B' s m us xs0) := hS
  have HO0 : Hid (Rc.Ok e0) := hO
  have HI0 : Hid (In31 xs0) := hI
  have HXL : Hid (xs0.length = len) := hl
  have HK0 : Hid (e0.k + 17 ≤ 70368744177664) := hk0
  have HN16 : Hid (N ≤ 16) := f2
  clear e1 hf hll f1 f3 h hS hO hI hl hk0 hX65
  go_enter Try.func57, Try.ntmps57
  go_wp2_with fail
  refine Calls.mono HRF.out ?_
  rintro z w1 ⟨rfl, c1⟩
  have HC1 : Hid (Chg (fun _ => False) w0 w1) := c1
  clear c1 HRF
  go_wp2_with fail
  refine (HBT.out _).mono ?_
  rintro z w2 ⟨lv, rfl, ho2, c2⟩
  have HC2 : Hid (Chg (fun _ => False) w0 w2) := chg_then HC1.out c2
  have HO2 : Hid (w2.ownsRow w1.heap.size 3 1 lv N (ins .i64 (nums l))) := ho2
  clear ho2 c2 HBT
  go_wp2_with fail
  refine (way_any P w1.heap.size lv l hP1 h01 N hlN f2 _ HO2.out).mono ?_
  rintro z w3 ⟨sv, rfl, ho3, c3⟩
  have HC3 : Hid (Chg (fun _ => False) w0 w3) := chg_then HC2.out c3
  have HO3 : Hid (w3.ownsRow w2.heap.size 125 2 sv N ((wayP P 1 l).flatMap stepCells)) := ho3
  have HZ : Hid (w0.heap.size ≤ w2.heap.size) := HC2.out.size
  obtain ⟨sa, sc, hsv⟩ := form2 ho3
  subst hsv
  clear ho3 c3 HO2
  have HST : Hid (PutR w0 w3 B B' r s m v0 v0 us e0 xs0) := ⟨(HRE.out.keep HC3.out (fun f => f) (fun _ _ f => f)), HRT.out.new HC3.out, HO0.out, HI0.out, HC3.out.mono (fun _ f => f.elim), Moved.refl _ _⟩
  clear HRE HRT
  go_wp2_with fail
  go_loopw [15] (fun iv wr => ∃ (k : Nat) (e : Rc.E) (xs : List Int) (v : Value), k ≤ N ∧ iv = .int .i64 (k : Int) ∧ Hid (xs.length = len) ∧ Hid (e.k ≤ e0.k + k) ∧ Hid (encL (wayQ P 1 l) e0 xs0 = encL ((wayQ P 1 l).drop k) e xs) ∧ Hid (wr.ownsRow w2.heap.size 125 2 (.slice sa N sc) N ((wayP P 1 l).flatMap stepCells)) ∧ Hid (PutR w0 wr B B' r s m v0 v us e xs)) (fun iv _ => N - (intOf iv).toNat)
  case atStart => exact ⟨0, e0, xs0, v0, Nat.zero_le _, rfl, HXL.out, by show e0.k ≤ e0.k + 0; omega, rfl, HO3.out, HST.out⟩
  case round =>
    clear HST HO3
    obtain ⟨k, e, xs, v, hk, rfl, HXS, HEK, HEL, HRW, HS⟩ := hrel
    by_cases hlt : k < N
    · obtain ⟨b, hb⟩ : ∃ b, l[k]? = some b := ⟨_, List.getElem?_eq_getElem (by omega)⟩
      have hb1 : b ≤ 1 := h01 b (List.mem_of_getElem? hb)
      have hq := wayQ_at P l 1 k b hb
      have hqk := HOKQ.out _ (List.mem_of_getElem? hq)
      obtain ⟨g, eg, c0, c1⟩ := step_own HRW.out (wayP_at P l 1 k b hb)
      obtain ⟨pm, hpm⟩ : ∃ pm : Nat, pm = P + wayM 1 (l.take k) := ⟨_, rfl⟩
      rw [← hpm] at hq hqk c0
      simp only at c0 c1
      have hpl : pm < xs.length := by
        rw [HXS.out]
        unfold Q.ok at hqk
        rw [if_neg (fun f => by cases f)] at hqk
        simp only at hqk
        omega
      have HPL : Hid (pm < xs.length) := hpl
      have HEN := enc_bit (e := e) hpl hb1
      have HDR : Hid (encL (wayQ P 1 l) e0 xs0 = encL ((wayQ P 1 l).drop (k + 1)) (coded e (xs[pm]'HPL.out) (b : Int)) (xs.set pm (Prob.nx (xs[pm]'HPL.out) (b : Int)))) := by
        show _ = _
        rw [HEL.out, encL_drop hq e xs (by rw [HXS.out]; exact hqk), HEN.1, HEN.2]
      subst eg
      clear hq hqk hpm HEN hb
      go_wp2_with fail
      refine wp_region_phaseQ (mk := fun u => #[_, _, _, _, _, _, _, _, _, _, _, _, _, _, _, _, _, _, _, _, _, _, _, _, _, _, _, _, _, _, _, _, _, _, u 34, u 35, u 36, u 37, u 38, u 39, u 40, u 41, u 42, u 43, u 44, u 45, _]) (G := lookG [(34, .pointer (some ⟨r, 0, none⟩)), (35, .pointer (some ⟨s, 0, none⟩)), (36, .slice (some ⟨g, 0, none⟩) N sc), (37, .int .i64 (k : Int)), (38, .pointer (some ⟨g, k * 2, none⟩)), (39, .pointer (some ⟨g, k * 2, none⟩)), (40, .int .i64 (pm : Int)), (41, .slice (some ⟨g, 0, none⟩) N sc), (42, .int .i64 (k : Int)), (43, .pointer (some ⟨g, k * 2, none⟩)), (44, .pointer (some ⟨g, k * 2 + 1, none⟩)), (45, .int .i64 (b : Int))]) (J := fun _ _ w => Chg (fun _ => False) wr w) [] (fun i =>  0) ([]) (fun slot => match slot with | 34 => u34 | 35 => u35 | 36 => u36 | 37 => u37 | 38 => u38 | 39 => u39 | 40 => u40 | 41 => u41 | 42 => u42 | 43 => u43 | 44 => u44 | 45 => u45 | _ => undef) rfl (by kernel_rfl) 12 _ rfl rfl (by kernel_rfl) (by kernel_rfl) (by kernel_rfl) (by decide) ?_ ?_ ?_ (by kernel_rfl) ?_ ?_
      · repeat (refine ⟨fun _ _ => rfl, ?_⟩)
        exact trivial
      · exact fun q u u2 w _ h => h
      · exact (Chg.refl _ _).drew
      · refine ⟨?_, ?_, ?_, ?_, ?_, ?_, ?_, ?_, ?_, ?_, ?_, ?_, trivial⟩
        · show StepRQ _ _ _ _ _ _ _ _ _ -- 34
          unfold StepRQ
          intro q hq u w hj hd K hK
          clear hd
          go_simp
          exact hK.out (.pointer (some ⟨r, 0, none⟩)) rfl
        · show StepRQ _ _ _ _ _ _ _ _ _ -- 35
          unfold StepRQ
          intro q hq u w hj hd K hK
          clear hd
          go_simp
          exact hK.out (.pointer (some ⟨s, 0, none⟩)) rfl
        · show StepRQ _ _ _ _ _ _ _ _ _ -- 36
          unfold StepRQ
          intro q hq u w hj hd K hK
          clear hd
          go_simp
          exact hK.out (.slice (some ⟨g, 0, none⟩) N sc) rfl
        · show StepRQ _ _ _ _ _ _ _ _ _ -- 37
          unfold StepRQ
          intro q hq u w hj hd K hK
          clear hd
          go_simp
          exact hK.out (.int .i64 (k : Int)) rfl
        · show StepRQ _ _ _ _ _ _ _ _ _ -- 38
          unfold StepRQ
          intro q hq u w hj hd K hK
          have h36 : u 36 = .slice (some ⟨g, 0, none⟩) N sc := hd.get 2 (by kernel_rfl)
          have h37 : u 37 = .int .i64 (k : Int) := hd.get 3 (by kernel_rfl)
          clear hd
          simp only [h36, h37] at hK
          go_simp
          exact hK.out (.pointer (some ⟨g, k * 2, none⟩)) rfl
        · show StepRQ _ _ _ _ _ _ _ _ _ -- 39
          unfold StepRQ
          intro q hq u w hj hd K hK
          have h38 : u 38 = .pointer (some ⟨g, k * 2, none⟩) := hd.get 4 (by kernel_rfl)
          clear hd
          simp only [h38] at hK
          go_simp
          exact hK.out (.pointer (some ⟨g, k * 2, none⟩)) rfl
        · show StepRQ _ _ _ _ _ _ _ _ _ -- 40
          unfold StepRQ
          intro q hq u w hj hd K hK
          have h39 : u 39 = .pointer (some ⟨g, k * 2, none⟩) := hd.get 5 (by kernel_rfl)
          clear hd
          simp only [h39] at hK
          have hcell := cell_chg c0 hj
          go_simp
          exact hK.out _ rfl
        · show StepRQ _ _ _ _ _ _ _ _ _ -- 41
          unfold StepRQ
          intro q hq u w hj hd K hK
          clear hd
          go_simp
          exact hK.out (.slice (some ⟨g, 0, none⟩) N sc) rfl
        · show StepRQ _ _ _ _ _ _ _ _ _ -- 42
          unfold StepRQ
          intro q hq u w hj hd K hK
          clear hd
          go_simp
          exact hK.out (.int .i64 (k : Int)) rfl
        · show StepRQ _ _ _ _ _ _ _ _ _ -- 43
          unfold StepRQ
          intro q hq u w hj hd K hK
          have h41 : u 41 = .slice (some ⟨g, 0, none⟩) N sc := hd.get 7 (by kernel_rfl)
          have h42 : u 42 = .int .i64 (k : Int) := hd.get 8 (by kernel_rfl)
          clear hd
          simp only [h41, h42] at hK
          go_simp
          exact hK.out (.pointer (some ⟨g, k * 2, none⟩)) rfl
        · show StepRQ _ _ _ _ _ _ _ _ _ -- 44
          unfold StepRQ
          intro q hq u w hj hd K hK
          have h43 : u 43 = .pointer (some ⟨g, k * 2, none⟩) := hd.get 9 (by kernel_rfl)
          clear hd
          simp only [h43] at hK
          go_simp
          exact hK.out (.pointer (some ⟨g, k * 2 + 1, none⟩)) rfl
        · show StepRQ _ _ _ _ _ _ _ _ _ -- 45
          unfold StepRQ
          intro q hq u w hj hd K hK
          have h44 : u 44 = .pointer (some ⟨g, k * 2 + 1, none⟩) := hd.get 10 (by kernel_rfl)
          clear hd
          simp only [h44] at hK
          have hcell := cell_chg c1 hj
          go_simp
          exact hK.out _ rfl
      · intro u w hj hA K hK
        have e34 : u 34 = .pointer (some ⟨r, 0, none⟩) := hA.at 34 (by kernel_rfl)
        have e35 : u 35 = .pointer (some ⟨s, 0, none⟩) := hA.at 35 (by kernel_rfl)
        have e40 : u 40 = .int .i64 (pm : Int) := hA.at 40 (by kernel_rfl)
        have e45 : u 45 = .int .i64 (b : Int) := hA.at 45 (by kernel_rfl)
        clear hA
        have HSJ : Hid (PutR w0 w B B' r s m v0 v us e xs) := ⟨HS.out.re.keep hj (fun f => f) (fun _ _ f => f), HS.out.rt.new hj, HS.out.ok, HS.out.inn, HS.out.chg.trans hj (fun _ f => f.elim), HS.out.mov⟩
        have HRWJ : Hid (w.ownsRow w2.heap.size 125 2 (.slice (some ⟨g, 0, none⟩) N sc) N ((wayP P 1 l).flatMap stepCells)) := own_keep2 HRW.out hj (fun _ _ f => f)
        have hin := HS.out.inn.at pm HPL.out
        clear hj HS HRW c0 c1
        go_simp
        go_at_call 58
        refine (rebit_in B B' r s m us v xs pm (b : Int) e w HSJ.out.rt HSJ.out.inn HPL.out HSJ.out.re HSJ.out.ok (by have := HEK.out; have := HK0.out; have := HN16.out; omega) (Nat.le_trans hB HSJ.out.chg.size)).mono ?_
        rintro z w4 ⟨rfl, v', hRe, hRt, hC, hM⟩
        have HN4 : Hid (PutR w0 w4 B B' r s m v0 v' us (coded e (xs[pm]'HPL.out) (b : Int)) (xs.set pm (Prob.nx (xs[pm]'HPL.out) (b : Int)))) := ⟨hRe, hRt, coded_ok HSJ.out.ok hin.1 hin.2, HSJ.out.inn.set pm _ (Prob.nx_lo hin.1 hin.2), HSJ.out.chg.trans hC (fun z f => f.elim (fun f => (HSJ.out.mov.foot r z f).elim (fun a => .inl (.inl a)) .inr) (fun f => .inl (.inr f))), HSJ.out.mov.trans HSJ.out.chg.size hM⟩
        have HRW4 : Hid (w4.ownsRow w2.heap.size 125 2 (.slice (some ⟨g, 0, none⟩) N sc) N ((wayP P 1 l).flatMap stepCells)) := own_keep2 HRWJ.out hC (fun g2 e2 f => by
          obtain ⟨cu, hcu⟩ := owns_blk HRWJ.out e2
          rcases f with f | f
          · rcases f with f | f
            · rw [f] at hcu
              exact ty_ne HSJ.out.re.blk hcu (by decide)
            · obtain ⟨c9, h9⟩ := owns_blk HSJ.out.re.own f
              exact ty_ne h9 hcu (by decide)
          · obtain ⟨c9, h9⟩ := owns_blk HSJ.out.rt.own f
            exact ty_ne h9 hcu (by decide))
        have HEK4 : Hid ((coded e (xs[pm]'HPL.out) (b : Int)).k ≤ e0.k + (k + 1)) := by show _ ≤ _; have h9 := coded_k (e := e) (p := xs[pm]'HPL.out) (b := (b : Int)); have := HEK.out; omega
        have HXS4 : Hid ((xs.set pm (Prob.nx (xs[pm]'HPL.out) (b : Int))).length = len) := by show _ = _; rw [List.length_set]; exact HXS.out
        clear hRe hRt hC hM hin HSJ HRWJ
        refine hK.out _ _ ?_
        go_wp2_with fail
        go_roundw
        case rel => exact ⟨k + 1, _, _, v', by omega, by go_num, HXS4.out, HEK4.out, HDR.out, HRW4.out, HN4.out⟩
        case measure => simp [intOf]; omega
    · have hkn : N = k := by omega
      subst hkn
      have hd : decide ((N : Int) < (N : Int)) = false := by simp
      have HFIN : Hid (encL (wayQ P 1 l) e0 xs0 = (e, xs)) := by
        show _ = _
        rw [HEL.out, List.drop_eq_nil_of_le (by rw [wayQ_len, hlN]; exact Nat.le_refl _)]
        rfl
      go_wp2
      go_ret
      refine .inr ⟨HF.out, rfl, v, ?_⟩
      rw [HFIN.out]
      exact HS.out
end Go.Proofs.Ytibgjpifmpljkaa

/- The contract of the document's Cost along a way; of no statement by itself. -/
namespace Go.Proofs.Ytibgjpifmpljkaa
open Go.RowKit
set_option linter.unusedVariables false

/-- What a way costs. -/
def costW (xs : List Int) (p : Nat) : Nat → List Nat → Int
  | _, [] => 0
  | m, b :: l => Prob.co (xs.getD (p + m) 1024) (b : Int) + costW xs p (2 * m + b) l
theorem costW_append (xs : List Int) (p : Nat) : ∀ (l : List Nat) (m b : Nat), costW xs p m (l ++ [b]) = costW xs p m l + Prob.co (xs.getD (p + wayM m l) 1024) (b : Int)
  | [], m, b => by simp [costW, wayM]
  | x :: l, m, b => by simp [costW, wayM, costW_append xs p l]; omega
theorem co_in {xs : List Int} (hI : In31 xs) (i b : Nat) : 1 ≤ Prob.co (xs.getD i 1024) (b : Int) ∧ Prob.co (xs.getD i 1024) (b : Int) ≤ 103 := by
  have h1 : 31 ≤ xs.getD i 1024 ∧ xs.getD i 1024 ≤ 2017 := by
    rw [List.getD_eq_getElem?_getD]
    cases e : xs[i]? with
    | none => simp
    | some x => exact hI x (List.mem_of_getElem? e)
  by_cases hb : (b : Int) = 0
  · rw [hb, Prob.co0 (by omega) (by omega)]; exact Prob.cost_in h1.1 h1.2
  · rw [Prob.co1 hb (by omega) (by omega)]; exact Prob.cost_in2 (by omega) (by omega)
theorem costW_in {xs : List Int} (hI : In31 xs) (p : Nat) : ∀ (l : List Nat) (m : Nat), 0 ≤ costW xs p m l ∧ costW xs p m l ≤ 103 * l.length
  | [], m => by simp [costW]
  | b :: l, m => by
    have h1 := co_in hI (p + m) b
    have h2 := costW_in hI p l (2 * m + b)
    simp only [costW, List.length_cons]
    omega

set_option maxHeartbeats 4000000 in
set_option maxRecDepth 100000 in
theorem refcost_any (B' s : Nat) (m : Int) (us : Value) (xs : List Int) (p n x : Int) (back : Bool) (len : Nat) (w0 : World) (hS : Rt w0 B' s m us xs) (hI : In31 xs) (hl : xs.length = len) (hlen : len ≤ 1048576) (hp : I64 p) (hn : I64 n) :
    Calls Try.prog 60 #[.pointer (some ⟨s, 0, none⟩), .int .i64 p, .int .i64 n, .int .i64 x, .bool back] w0 fun z w' =>
      (¬ Fits len p n x ∧ z = .returned (.tuple #[.int .i64 0, .int .i64 7]) ∧ Chg (fun _ => False) w0 w')
      ∨ (Fits len p n x ∧ z = .returned (.tuple #[.int .i64 (costW xs p.toNat 1 (bitsOf back n.toNat x.toNat)), .int .i64 0]) ∧ Chg (fun _ => False) w0 w') := by
  have HRF : Hid _ := refused_any B' s m p n x us xs len w0 hS hl hlen hp hn
  by_cases hf : Fits len p n x
  rotate_left
  · have e1 : decide (Fits len p n x) = false := decide_eq_false hf
    rw [e1] at HRF
    have HF : Hid (¬ Fits len p n x) := hf
    clear e1 hf hS hI
    go_enter Try.func60, Try.ntmps60
    go_wp2_with fail
    refine Calls.mono HRF.out ?_
    rintro z w1 ⟨rfl, c1⟩
    go_wp2
    go_ret2
    exact .inl ⟨HF.out, rfl, c1⟩
  have e1 : decide (Fits len p n x) = true := decide_eq_true hf
  rw [e1] at HRF
  have HF : Hid (Fits len p n x) := hf
  obtain ⟨f1, f2, f3⟩ := fits_bits hf
  obtain ⟨P, hP⟩ : ∃ P : Nat, (P : Int) = p := ⟨p.toNat, by have := hf.1.2.2.1; omega⟩
  obtain ⟨N, hN⟩ : ∃ N : Nat, (N : Int) = n := ⟨n.toNat, by have := hf.1.1; omega⟩
  obtain ⟨X, hX⟩ : ∃ X : Nat, (X : Int) = x := ⟨x.toNat, by have := hf.2.1; omega⟩
  subst hP hN hX
  simp only [Int.toNat_natCast] at f1 f2 f3 ⊢
  have hX65 : X ≤ 65535 := by have := pow16 f2; omega
  obtain ⟨l, hll⟩ : ∃ l, bitsOf back N X = l := ⟨_, rfl⟩
  have HBT : Hid (∀ w, Calls Try.prog 82 #[.int .i64 (N : Int), .int .i64 (X : Int), .bool back] w fun e w' => ∃ lv, e = .returned lv ∧ w'.ownsRow w.heap.size 3 1 lv N (ins .i64 (nums l)) ∧ Chg (fun _ => False) w w') := fun w => by rw [← hll]; exact bits_any N X back f2 hX65 w
  have h01 : Bits01 l := by rw [← hll]; exact bitsOf_01 _ _ _
  have hlN : l.length = N := by rw [← hll]; exact bitsOf_len _ _ _
  have HOKQ : Hid (∀ q ∈ wayQ P 1 l, q.ok len) := wayQ_ok1 f1 h01 (by omega)
  have hP1 : P ≤ 1048576 := by omega
  rw [hll]
  have HRT : Hid (Rt w0 B' s m us xs) := hS
  have HI0 : Hid (In31 xs) := hI
  have HXL : Hid (xs.length = len) := hl
  have HN16 : Hid (N ≤ 16) := f2
  clear e1 hf hll f1 f3 hS hI hl hX65
  go_enter Try.func60, Try.ntmps60
  go_wp2_with fail
  refine Calls.mono HRF.out ?_
  rintro z w1 ⟨rfl, c1⟩
  have HC1 : Hid (Chg (fun _ => False) w0 w1) := c1
  clear c1 HRF
  go_wp2_with fail
  refine (HBT.out _).mono ?_
  rintro z w2 ⟨lv, rfl, ho2, c2⟩
  have HC2 : Hid (Chg (fun _ => False) w0 w2) := chg_then HC1.out c2
  have HO2 : Hid (w2.ownsRow w1.heap.size 3 1 lv N (ins .i64 (nums l))) := ho2
  clear ho2 c2 HBT
  go_wp2_with fail
  refine (way_any P w1.heap.size lv l hP1 h01 N hlN f2 _ HO2.out).mono ?_
  rintro z w3 ⟨sv, rfl, ho3, c3⟩
  have HC3 : Hid (Chg (fun _ => False) w0 w3) := chg_then HC2.out c3
  have HO3 : Hid (w3.ownsRow w2.heap.size 125 2 sv N ((wayP P 1 l).flatMap stepCells)) := ho3
  obtain ⟨sa, sc, hsv⟩ := form2 ho3
  subst hsv
  clear ho3 c3 HO2
  go_wp2_with fail
  go_loopw [14, 15] (fun cv iv wr => ∃ (k : Nat) (c : Int), k ≤ N ∧ cv = .int .i64 c ∧ iv = .int .i64 (k : Int) ∧ Hid (c = costW xs P 1 (l.take k)) ∧ Hid (wr = w3)) (fun _ iv _ => N - (intOf iv).toNat)
  case atStart => exact ⟨0, 0, Nat.zero_le _, rfl, rfl, rfl, rfl⟩
  case round =>
    obtain ⟨k, c, hk, rfl, rfl, HCO, HW⟩ := hrel
    obtain ⟨wr2, hwr2⟩ : ∃ wr2, wr2 = wr := ⟨_, rfl⟩
    have hcb : 0 ≤ c ∧ c ≤ 103 * k := by
      have h9 := costW_in HI0.out P (l.take k) 1
      rw [List.length_take, hlN, Nat.min_eq_left hk, ← HCO.out] at h9
      exact h9
    have HCHG : Hid (Chg (fun _ => False) w0 wr) := by show Chg _ _ _; rw [HW.out]; exact HC3.out
    have HRW : Hid (wr.ownsRow w2.heap.size 125 2 (.slice sa N sc) N ((wayP P 1 l).flatMap stepCells)) := by show World.ownsRow _ _ _ _ _ _ _; rw [HW.out]; exact HO3.out
    by_cases hlt : k < N
    · obtain ⟨b, hb⟩ : ∃ b, l[k]? = some b := ⟨_, List.getElem?_eq_getElem (by omega)⟩
      have hq := wayQ_at P l 1 k b hb
      have hqk := HOKQ.out _ (List.mem_of_getElem? hq)
      obtain ⟨g, eg, c0, c1⟩ := step_own HRW.out (wayP_at P l 1 k b hb)
      obtain ⟨pm, hpm⟩ : ∃ pm : Nat, pm = P + wayM 1 (l.take k) := ⟨_, rfl⟩
      rw [← hpm] at hqk c0
      simp only at c0 c1
      have hpl : pm < xs.length := by
        rw [HXL.out]
        unfold Q.ok at hqk
        rw [if_neg (fun f => by cases f)] at hqk
        simp only at hqk
        omega
      have hgd : xs.getD pm 1024 = xs[pm] := by simp [List.getD_eq_getElem?_getD, hpl]
      obtain ⟨pv, hpv⟩ : ∃ pv : Int, pv = xs[pm] := ⟨_, rfl⟩
      have hin := HI0.out.at pm hpl
      rw [← hpv] at hin
      have HAT : Hid (Calls Try.prog 83 #[.pointer (some ⟨s, 0, none⟩), .int .i64 (pm : Int)] wr fun e w' => e = .returned (.tuple #[.int .i64 pv, .int .i64 0]) ∧ wr = w') := by
        have h9 := rat_in B' s m us xs pm wr (HRT.out.new HCHG.out) (by exact hpl)
        rw [← hpv] at h9
        exact h9
      have HCC : Hid (Prob.co pv (b : Int) + c = costW xs P 1 (l.take (k + 1))) := by
        show _ = _
        rw [List.take_add_one, hb]
        simp only [Option.toList_some]
        rw [costW_append, ← hpm, hgd, ← hpv, ← HCO.out]
        omega
      have hcc := co_in HI0.out pm b
      rw [hgd, ← hpv] at hcc
      have HCT : Hid (∀ w, Calls Try.prog 89 #[.int .i64 pv, .int .i64 (b : Int)] w fun e w' => e = .returned (.int .i64 (Prob.co pv (b : Int))) ∧ w = w') := fun w => rCost_any pv (b : Int) w ⟨by omega, by omega⟩
      obtain ⟨co, hco⟩ : ∃ co : Int, co = Prob.co pv (b : Int) := ⟨_, rfl⟩
      rw [← hco] at HCC HCT hcc
      subst eg
      clear hq hqk hpm hpv hgd hpl hb hin hco hwr2
      go_wp2_with fail
      refine Calls.mono HAT.out ?_
      rintro z w4 ⟨rfl, rfl⟩
      go_wp2_with fail
      refine (HCT.out _).mono ?_
      rintro z w4 ⟨rfl, rfl⟩
      have hw9 : IntKind.i64.wrap (c + co) = c + co := wr64 (by omega) (by omega)
      go_wp2_with fail
      go_roundw
      case rel => exact ⟨k + 1, c + co, by omega, by go_num, by go_num, by show _ = _; rw [← HCC.out]; omega, HW.out⟩
      case measure => simp [intOf]; omega
    · have hkn : N = k := by omega
      subst hkn
      have hd : decide ((N : Int) < (N : Int)) = false := by simp
      have HE : Hid (c = costW xs P 1 l) := by
        show _ = _
        rw [HCO.out, List.take_of_length_le (by omega)]
      clear hwr2
      go_wp2
      go_ret2
      refine .inr ⟨HF.out, ?_, HCHG.out⟩
      rw [← HE.out]
      rfl
end Go.Proofs.Ytibgjpifmpljkaa
