/- The program's Read, and what is asked of chains ('chainSpec'); of no statement by itself. -/
import Derived.Test.YtkncbanodpfccaaDoorBoundF
import Derived.Test.YtkncbanodpfccaaDoorCle
import Derived.Laws.EntriesVeiled
namespace Go.Proofs.YtkncbanodpfccaaDoor
open Go.RowKit
open St12
set_option linter.unusedVariables false
set_option linter.unusedSimpArgs false
theorem cell_not {w w' : World} {b o B : Nat} {v : Value} (h : w.cell? ⟨b, o, none⟩ = some v) (hc : Chg (fun g => g = B) w w') (hb : b ≠ B) : w'.cell? ⟨b, o, none⟩ = some v := by
  have h9 := World.block_lt_of_cell? _ _ h
  have h7 := hc.block b h9 hb
  rw [← h]
  simp only [World.cell?, h7]
theorem Vint.row8_keepB {w w' : World} {B n c : Nat} {ad : Option Addr} {xs : List Int} (h : Row8 w ad n c xs) (hc : Chg (fun g => g = B) w w') (hS : ∀ y : Addr, 0 < n → ad = some y → y.block ≠ B) : Row8 w' ad n c xs := by
  refine ⟨h.1, ?_⟩
  rcases h.2 with e | ⟨x, rfl, hx⟩
  · exact .inl e
  · refine .inr ⟨x, rfl, fun j u hu => ?_⟩
    have h0 := hx j u hu
    have hlt := World.block_lt_of_cell? w _ h0
    have hj := (List.getElem?_eq_some_iff.1 hu).1
    rw [List.length_map, h.1] at hj
    have hb : (x.add j).block = x.block := by unfold Addr.add; split <;> rfl
    rw [World.cell?_of_block (w := w) (hc.block _ hlt (fun e => hS x (by omega) rfl (by rw [← hb]; exact e)))]
    exact h0
/-- Filters one behind the other. -/
def fldT : List (Nat × Flt) → Int × Int → Option (Int × Int)
  | [], s => some s
  | z :: t, s => if tkE z.1 z.2 = 0 then fldT t (tkS z.1 z.2 s) else none
theorem fldT_app : ∀ (a b : List (Nat × Flt)) (s : Int × Int), fldT (a ++ b) s = (fldT a s).bind (fldT b)
  | [], b, s => rfl
  | z :: a, b, s => by
    simp only [List.cons_append, fldT]
    split
    · exact fldT_app a b _
    · rfl
theorem fldT_next {zs : List (Nat × Flt)} {i : Nat} {z : Nat × Flt} {s : Int × Int} (h : zs[i]? = some z) (hf : fldT (zs.take i) (0, 0) = some s) (he : tkE z.1 z.2 = 0) : fldT (zs.take (i + 1)) (0, 0) = some (tkS z.1 z.2 s) := by
  rw [List.take_add_one, h, fldT_app, hf]
  simp [fldT, he]
theorem fldT_stop {zs : List (Nat × Flt)} {i : Nat} {z : Nat × Flt} {s : Int × Int} (h : zs[i]? = some z) (hf : fldT (zs.take i) (0, 0) = some s) (he : tkE z.1 z.2 ≠ 0) : fldT zs (0, 0) = none := by
  have hl := (List.getElem?_eq_some_iff.1 h).1
  have e : zs = zs.take (i + 1) ++ zs.drop (i + 1) := (List.take_append_drop _ _).symm
  rw [e, fldT_app, List.take_add_one, h, fldT_app, hf]
  simp [fldT, he]
def zsF : List Flt → List (Nat × Flt)
  | [a] => [(33, a)]
  | [a, b] => [(3, a), (33, b)]
  | _ => []
theorem byteD_dig {x : Nat} (h : x < 256) : Ck17.byteD (x : Int) = if x ≤ 40 then (((Ck17.dic x : Nat) : Int), 0) else (0, 4) := by
  split
  · rename_i h1; exact Ck17.byteD_in h1
  · unfold Ck17.byteD
    rw [if_neg (by omega), if_pos (by omega)]
theorem tkE_is {id : Nat} {f : Flt} (hd : Rc.Dig f.ps) : tkE id f = 0 ∨ tkE id f = 4 := by
  unfold tkE
  split
  · exact .inr rfl
  · rename_i x hx
    split
    · exact .inl rfl
    · have hx2 := (one_some hx).2
      rw [byteD_dig (hd x (by rw [hx2]; simp))]
      split
      · exact .inl rfl
      · exact .inr rfl
theorem read_fld {l : List Flt} (hl : l.length = 1 ∨ l.length = 2) (hd : ∀ f ∈ l, Rc.Dig f.ps) : Cn20.readF l = match fldT (zsF l) (0, 0) with | some s => (s.1, s.2, 0) | none => (0, 0, 4) := by
  match l, hl with
  | [a], _ =>
    simp only [zsF, fldT]
    unfold Cn20.readF tkE tkS
    cases ha : Cn20.one a 33 with
    | none => simp [ha]
    | some x =>
      have hx := hd a (by simp) x (by rw [(one_some ha).2]; simp)
      simp only [byteD_dig hx]
      by_cases h4 : x ≤ 40 <;> simp [h4, ha]
  | [a, b], _ =>
    simp only [zsF, fldT]
    unfold Cn20.readF tkE tkS
    cases ha : Cn20.one a 3 with
    | none => simp [ha]
    | some y =>
      cases hb : Cn20.one b 33 with
      | none => simp [ha, hb]
      | some x =>
        have hx := hd b (by simp) x (by rw [(one_some hb).2]; simp)
        simp only [byteD_dig hx]
        by_cases h4 : x ≤ 40 <;> simp [h4, ha, hb]
theorem read_far {l : List Flt} (h : l.length = 0 ∨ 2 < l.length) : Cn20.readF l = (0, 0, 4) := by
  match l, h with
  | [], _ => rfl
  | [a], h => simp at h
  | [a, b], h => simp at h
  | a :: b :: c :: t, _ => rfl
theorem cells4g {w : World} {a : Nat} {x0 x1 x2 x3 : Value} {t : TypeId} (h : w.heap[a]? = some (.cells #[x0, x1, x2, x3] t (0, 0))) : w.cell? ⟨a, 0, none⟩ = some x0 ∧ w.cell? ⟨a, 1, none⟩ = some x1 ∧ w.cell? ⟨a, 2, none⟩ = some x2 ∧ w.cell? ⟨a, 3, none⟩ = some x3 :=
  ⟨by simp [World.cell?, h], by simp [World.cell?, h], by simp [World.cell?, h], by simp [World.cell?, h]⟩
/-- What is known at place i of a chain of n. -/
theorem kn_at {w : World} {G n i : Nat} {l : List FlV} {q : FlV} (hG : w.heap[G]? = some (.cells #[.int .u64 3, .func (.func 53) #[] #[], .int .u64 33, .func (.func 54) #[] #[]] 72 (0, 0))) (hl : l.length = n) (hn : n = 1 ∨ n = 2) (hi : i < n) (hq : l[i]? = some q) :
    ∃ id F, (id = 3 ∧ F = 53 ∨ id = 33 ∧ F = 54) ∧ (zsF (l.map FlV.f))[i]? = some (id, q.f) ∧ w.cell? ⟨G, (2 - n) * 2 + i * 2, none⟩ = some (.int .u64 ((id : Nat) : Int)) ∧ w.cell? ⟨G, (2 - n) * 2 + i * 2 + 1, none⟩ = some (.func (.func F) #[] #[]) := by
  obtain ⟨g0, g1, g2, g3⟩ := cells4g hG
  rcases hn with rfl | rfl
  · obtain rfl : i = 0 := by omega
    match l, hl, hq with
    | [a], _, hq =>
      simp at hq
      subst hq
      exact ⟨33, _, .inr ⟨rfl, rfl⟩, rfl, g2, g3⟩
  · match l, hl, hq with
    | [a, b], _, hq =>
      rcases i with _ | _ | i
      · simp at hq
        subst hq
        exact ⟨3, _, .inl ⟨rfl, rfl⟩, rfl, g0, g1⟩
      · simp at hq
        subst hq
        exact ⟨33, _, .inr ⟨rfl, rfl⟩, rfl, g2, g3⟩
      · omega
theorem underKs : Tryd.prog.underlying 66 = some (.slice (Tryd.prog.elem 66)) := by kernel_rfl
theorem elemKs : Tryd.prog.elem 66 = 72 := by kernel_rfl
theorem sizeKs : (sizeOf 72).run Tryd.prog = fun w => .ok 2 w := by kernel_rfl
theorem cut_known (G n : Nat) (hn : n = 1 ∨ n = 2) (w : World) : (Instr.sliceAt 66 (.slice (some ⟨G, 0, none⟩) 2 2) (some (.int .i64 (2 - (n : Int)))) none none).run Tryd.prog w = .ok (.slice (some ⟨G, (2 - n) * 2, none⟩) n n) w := by
  have h := run_cutZ_lo underKs elemKs sizeKs (some ⟨G, 0, none⟩) 2 2 (2 - n) w (by omega)
  have e : (((2 - n : Nat) : Nat) : Int) = 2 - (n : Int) := by omega
  rw [e] at h
  rw [h]
  rcases hn with rfl | rfl <;> rfl
set_option maxHeartbeats 8000000 in
set_option maxRecDepth 100000 in
theorem read20_far (ad : Option Addr) (n c : Nat) (w : World) (h : n = 0 ∨ 2 < n) (hn : n ≤ 4398046511104) : Calls Tryd.prog 12 #[.slice ad n c] w fun e w' => e = .returned (.tuple #[.int .i64 0, .int .i64 0, .int .i64 4]) ∧ Chg (fun _ => False) w w' := by
  have HK : Hid _ := known20_q w
  have hni : (n : Int) ≤ 4398046511104 := by omega
  by_cases h0 : n = 0
  · subst h0
    clear h
    go_enter Tryd.func12, Tryd.ntmps12
    go_wp2_with fail
    refine Calls.mono HK.out ?_
    rintro z w1 ⟨rfl, rfl⟩
    go_wp2
    go_ret3
    exact ⟨rfl, chg_one _ _⟩
  · have d0 : ((n : Int) == 0) = false := by simp; omega
    have d1 : decide ((2 : Int) < (n : Int)) = true := decide_eq_true (by omega)
    clear h h0
    go_enter Tryd.func12, Tryd.ntmps12
    go_wp2_with fail
    refine Calls.mono HK.out ?_
    rintro z w1 ⟨rfl, rfl⟩
    go_wp2
    go_ret3
    exact ⟨rfl, chg_one _ _⟩
set_option maxHeartbeats 16000000 in
set_option maxRecDepth 100000 in
theorem read20_in (ad : Option Addr) (n c : Nat) (l : List FlV) (w : World) (hl : FlL w ad l) (hln : l.length = n) (hn : n = 1 ∨ n = 2) (hnc : n ≤ c) : Calls Tryd.prog 12 #[.slice ad n c] w fun e w' => e = .returned (.tuple #[.int .i64 (Cn20.readF (l.map FlV.f)).1, .int .i64 (Cn20.readF (l.map FlV.f)).2.1, .int .i64 (Cn20.readF (l.map FlV.f)).2.2]) ∧ Chg (fun _ => False) w w' := by
  have HK : Hid _ := known20_q w
  have HLL : Hid (FlL w ad l ∧ l.length = n ∧ (n = 1 ∨ n = 2)) := ⟨hl, hln, hn⟩
  have HRF : Hid (Cn20.readF (l.map FlV.f) = match fldT (zsF (l.map FlV.f)) (0, 0) with | some s => (s.1, s.2, 0) | none => (0, 0, 4)) := read_fld (by rw [List.length_map]; omega) (fun f hf => by
    obtain ⟨q, hq, rfl⟩ := List.mem_map.1 hf
    obtain ⟨k, hk, e⟩ := List.getElem_of_mem hq
    exact (hl k q (by rw [List.getElem?_eq_getElem hk, e])).1.dig)
  obtain ⟨q0, b, off, -, -, rfl, -, -⟩ := hl.at (k := 0) (by omega)
  have hbw : b < w.heap.size := by
    obtain ⟨q0, b', off', -, -, e, x0, -⟩ := hl.at (k := 0) (by omega)
    simp only [Option.some.injEq, Addr.mk.injEq] at e
    have h9 := World.block_lt_of_cell? _ _ x0
    simp only at h9
    omega
  have hnI : (n : Int) ≤ 2 := by omega
  have hnI1 : 1 ≤ (n : Int) := by omega
  have d0 : ((n : Int) == 0) = false := by simp; omega
  have d1 : decide ((2 : Int) < (n : Int)) = false := decide_eq_false (by omega)
  have cA := chg_one w (.cells #[.int .u64 3, .func (.func 53) #[] #[], .int .u64 33, .func (.func 54) #[] #[]] 72)
  have cB := chg_one (w.alloc (.cells #[.int .u64 3, .func (.func 53) #[] #[], .int .u64 33, .func (.func 54) #[] #[]] 72)) (.cells #[.int .i64 0, .int .i64 0] 69)
  have bA := blk_keep (heap_alloc_last w (.cells #[.int .u64 3, .func (.func 53) #[] #[], .int .u64 33, .func (.func 54) #[] #[]] 72)) cB (fun f => f)
  have bB := heap_alloc_last (w.alloc (.cells #[.int .u64 3, .func (.func 53) #[] #[], .int .u64 33, .func (.func 54) #[] #[]] 72)) (.cells #[.int .i64 0, .int .i64 0] 69)
  rw [World.size_alloc] at bB
  have HST : Hid (((w.alloc (.cells #[.int .u64 3, .func (.func 53) #[] #[], .int .u64 33, .func (.func 54) #[] #[]] 72)).alloc (.cells #[.int .i64 0, .int .i64 0] 69)).heap[w.heap.size + 1]? = some (.cells #[.int .i64 0, .int .i64 0] 69 (0, 0)) ∧ ((w.alloc (.cells #[.int .u64 3, .func (.func 53) #[] #[], .int .u64 33, .func (.func 54) #[] #[]] 72)).alloc (.cells #[.int .i64 0, .int .i64 0] 69)).heap[w.heap.size]? = some (.cells #[.int .u64 3, .func (.func 53) #[] #[], .int .u64 33, .func (.func 54) #[] #[]] 72 (0, 0)) ∧ Chg (fun _ => False) w ((w.alloc (.cells #[.int .u64 3, .func (.func 53) #[] #[], .int .u64 33, .func (.func 54) #[] #[]] 72)).alloc (.cells #[.int .i64 0, .int .i64 0] 69))) := ⟨bB, bA, chg_then cA cB⟩
  have hcut := cut_known w.heap.size n hn
  clear cA cB bA bB hl hln hn
  go_enter Tryd.func12, Tryd.ntmps12
  go_wp2_with fail
  refine Calls.mono HK.out ?_
  rintro z w1 ⟨rfl, rfl⟩
  go_wp2_with fail
  obtain ⟨G, hG⟩ : ∃ G, w.heap.size = G := ⟨_, rfl⟩
  obtain ⟨B, hB⟩ : ∃ B, w.heap.size + 1 = B := ⟨_, rfl⟩
  rw [hB] at HST
  rw [hG] at HST hcut
  try rw [hB]
  try rw [hG]
  have HGB : Hid (G + 1 = B ∧ w.heap.size = G ∧ b < G) := ⟨by omega, hG, by omega⟩
  clear hG hB hbw hcut
  generalize (w.alloc (.cells #[.int .u64 3, .func (.func 53) #[] #[], .int .u64 33, .func (.func 54) #[] #[]] 72)).alloc (.cells #[.int .i64 0, .int .i64 0] 69) = WS at *
  go_loopw [29] (fun t wr => ∃ (i : Nat) (s1 s2 : Int), i ≤ n ∧ t = .int .i64 (i : Int) ∧ Hid (wr.heap[B]? = some (.cells #[.int .i64 s1, .int .i64 s2] 69 (0, 0)) ∧ wr.heap[G]? = some (.cells #[.int .u64 3, .func (.func 53) #[] #[], .int .u64 33, .func (.func 54) #[] #[]] 72 (0, 0)) ∧ Chg (fun _ => False) w wr ∧ fldT ((zsF (l.map FlV.f)).take i) (0, 0) = some (s1, s2))) (fun t _ => n - (intOf t).toNat)
  case atStart => exact ⟨0, 0, 0, by omega, rfl, HST.out.1, HST.out.2.1, HST.out.2.2, rfl⟩
  case round =>
    obtain ⟨i, s1, s2, hi, rfl, HI⟩ := hrel
    by_cases hin : i < n
    rotate_left
    · have dn : decide (i < n) = false := decide_eq_false hin
      have hz : (zsF (l.map FlV.f)).take i = zsF (l.map FlV.f) := by
        apply List.take_of_length_le
        have h1 := HLL.out
        have h2 : (l.map FlV.f).length = n := by rw [List.length_map]; exact h1.2.1
        rcases h1.2.2 with e | e
        · match hl : l.map FlV.f, h2 with
          | [a], _ => simp [zsF]; omega
          | [], h2 => simp at h2; omega
          | a :: b :: t, h2 => simp at h2; omega
        · match hl : l.map FlV.f, h2 with
          | [a, b], _ => simp [zsF]; omega
          | [], h2 => simp at h2; omega
          | [a], h2 => simp at h2; omega
          | a :: b :: c :: t, h2 => simp at h2; omega
      have hI := HI.out
      rw [hz] at hI
      have HR9 : Hid (Cn20.readF (l.map FlV.f) = (s1, s2, 0)) := by show _ = _; rw [HRF.out, hI.2.2.2]
      have k0 := cell0 hI.1
      have k1 := cell1 hI.1
      have HC9 : Hid (Chg (fun _ => False) w wr) := hI.2.2.1
      clear hI hz hin HI
      go_wp2_with (go_quiet (fail))
      go_ret3
      exact ⟨by rw [HR9.out]; rfl, chg_then HC9.out (chg_drewN _ _)⟩
    · have dn : decide (i < n) = true := decide_eq_true hin
      obtain ⟨q, b', off', hq, hok, hab, x0, x1⟩ := HLL.out.1.at (k := i) (by rw [HLL.out.2.1]; exact hin)
      simp only [Option.some.injEq, Addr.mk.injEq, and_true] at hab
      obtain ⟨rfl, rfl⟩ := hab
      obtain ⟨id, F, hF, hz, k0, k1⟩ := kn_at HI.out.2.1 HLL.out.2.1 HLL.out.2.2 hin hq
      have x0 := cell_chg x0 HI.out.2.2.1
      have x1 := cell_chg x1 HI.out.2.2.1
      have hBw : G + 1 = B := HGB.out.1
      have hbB : b ≠ B := by have := HGB.out; omega
      have hwrB : B < wr.heap.size := lt_of_blk HI.out.1
      have hoff : ∀ y : Addr, 0 < q.n → q.a = some y → y.block ≠ B := fun y h0 e => by
        obtain ⟨b2, off2, e2, h2⟩ := row8_at hok.row h0
        rw [e] at e2
        simp only [Option.some.injEq] at e2
        subst e2
        have h3 := World.block_lt_of_cell? _ _ (h2 0 h0)
        have h4 := HGB.out
        simp only at h3
        show b2 ≠ B
        omega
      have HOK : Hid (q.ok w) := hok
      have HTE : Hid (tkE id q.f = 0 ∨ tkE id q.f = 4) := tkE_is hok.dig
      have HZ : Hid ((zsF (l.map FlV.f))[i]? = some (id, q.f)) := hz
      have cK := chg_one wr (.cells #[.int .u64 (id : Int), .func (.func F) #[] #[]] 72)
      have bK := heap_alloc_last wr (.cells #[.int .u64 (id : Int), .func (.func F) #[] #[]] 72)
      have HW : Hid (Chg (fun _ => False) w (wr.alloc (.cells #[.int .u64 (id : Int), .func (.func F) #[] #[]] 72)) ∧ (wr.alloc (.cells #[.int .u64 (id : Int), .func (.func F) #[] #[]] 72)).heap[G]? = some (.cells #[.int .u64 3, .func (.func 53) #[] #[], .int .u64 33, .func (.func 54) #[] #[]] 72 (0, 0)) ∧ fldT ((zsF (l.map FlV.f)).take i) (0, 0) = some (s1, s2)) := ⟨chg_then HI.out.2.2.1 cK, blk_keep HI.out.2.1 cK (fun f => f), HI.out.2.2.2⟩
      have HB0 : Hid ((wr.alloc (.cells #[.int .u64 (id : Int), .func (.func F) #[] #[]] 72)).heap[B]? = some (.cells #[.int .i64 s1, .int .i64 s2] 69 (0, 0))) := blk_keep HI.out.1 cK (fun f => f)
      have HCL : Hid (∀ ww, Chg (fun g => g = B) (wr.alloc (.cells #[.int .u64 (id : Int), .func (.func F) #[] #[]] 72)) ww → ww.heap[B]? = some (.cells #[.int .i64 s1, .int .i64 s2] 69 (0, 0)) → Calls Tryd.prog 30 #[.agg #[.int .u64 (id : Int), .func (.func F) #[] #[]], .agg #[.int .u64 (q.id : Int), .slice q.a q.n q.c], .pointer (some ⟨B, 0, none⟩)] ww fun e w' => e = .returned (.int .i64 (tkE id q.f)) ∧ w'.heap[B]? = some (.cells #[.int .i64 (tkS id q.f (s1, s2)).1, .int .i64 (tkS id q.f (s1, s2)).2] 69 (0, 0)) ∧ Chg (fun g => g = B) ww w') := fun ww hc hb => by
        refine take20_any id F hF q B (s1, s2) ww ⟨HOK.out.id, ?_, HOK.out.dig, HOK.out.cap, HOK.out.lim⟩ hb hoff
        have hr := Bk.row8_chg HOK.out.row HW.out.1
        refine Vint.row8_keepB hr hc ?_
        exact fun y h0 e => hoff y h0 e
      have HBK : Hid (∀ ww, Chg (fun g => g = B) (wr.alloc (.cells #[.int .u64 (id : Int), .func (.func F) #[] #[]] 72)) ww → ww.cell? ⟨wr.heap.size, 0, none⟩ = some (.int .u64 (id : Int)) ∧ ww.cell? ⟨wr.heap.size, 1, none⟩ = some (.func (.func F) #[] #[]) ∧ ww.cell? ⟨b, off + i * 2, none⟩ = some (.int .u64 (q.id : Int)) ∧ ww.cell? ⟨b, off + i * 2 + 1, none⟩ = some (.slice q.a q.n q.c)) := fun ww hc => by
        have h9 := blk_keep bK hc (fun e => by omega)
        exact ⟨cell0 h9, cell1 h9, cell_not (cell_chg x0 cK) hc hbB, cell_not (cell_chg x1 cK) hc hbB⟩
      obtain ⟨E, hE⟩ : ∃ E, tkE id q.f = E := ⟨_, rfl⟩
      obtain ⟨t1, t2, hT⟩ : ∃ t1 t2, tkS id q.f (s1, s2) = (t1, t2) := ⟨_, _, rfl⟩
      simp only [hE, hT] at HCL
      have HE : Hid (tkE id q.f = E ∧ tkS id q.f (s1, s2) = (t1, t2)) := ⟨hE, hT⟩
      have HEE : Hid (E = 0 ∨ E = 4) := by rw [hE] at HTE; exact HTE
      obtain ⟨kd, hkd⟩ : ∃ kd : Int, (id : Int) = kd := ⟨_, rfl⟩
      obtain ⟨y, hy⟩ : ∃ y : Int, (q.id : Int) = y := ⟨_, rfl⟩
      obtain ⟨qa, hqa⟩ : ∃ x, q.a = x := ⟨_, rfl⟩
      obtain ⟨qn, hqn⟩ : ∃ x, q.n = x := ⟨_, rfl⟩
      obtain ⟨qc, hqc⟩ : ∃ x, q.c = x := ⟨_, rfl⟩
      rw [hkd] at k0 HW HB0 HCL HBK
      simp only [hy, hqa, hqn, hqc] at HCL HBK
      clear hE hT hkd hy hqa hqn hqc hF hz hq hok hoff x0 x1 cK bK HI HTE HOK hbB
      go_upto_region 8 with fail
      generalize wr.alloc (.cells #[.int .u64 kd, .func (.func F) #[] #[]] 72) = W0 at *
      obtain ⟨Kb, hKb⟩ : ∃ Kb, wr.heap.size = Kb := ⟨_, rfl⟩
      try rw [hKb] at HBK
      try simp only [hKb]
      clear hKb k0 k1
      refine wp_region_phaseQ (mk := fun u => #[_, _, _, _, _, _, _, _, _, _, _, _, _, _, _, _, _, _, _, _, _, _, _, _, _, _, _, _, _, _, _, _, _, _, u 34, u 35, u 36, u 37, u 38, u 39, _, _, _, _, _, _, _, _]) (G := lookG [(34, .agg #[.int .u64 kd, .func (.func F) #[] #[]]), (35, .slice (some ⟨b, off, none⟩) n c), (36, .int .i64 (i : Int)), (37, .pointer (some ⟨b, off + i * 2, none⟩)), (38, .agg #[.int .u64 y, .slice qa qn qc]), (39, .int .i64 E)]) (J := fun q u ww => TkJ W0 B #[.int .i64 s1, .int .i64 s2] #[.int .i64 t1, .int .i64 t2] q ww) [5] (fun i =>  1) ([]) (fun slot => match slot with | 34 => u34 | 35 => u35 | 36 => u36 | 37 => u37 | 38 => u38 | 39 => u39 | _ => undef) rfl (by kernel_rfl) 6 _ rfl rfl (by kernel_rfl) (by kernel_rfl) (by kernel_rfl) (by decide) ?_ ?_ ?_ (by kernel_rfl) ?_ ?_
      · repeat (refine ⟨fun _ _ => rfl, ?_⟩)
        exact trivial
      · exact fun q u u2 ww _ h => h
      · exact ⟨(Chg.refl _ _).drew, HB0.out⟩
      · refine ⟨?_, ?_, ?_, ?_, ?_, ?_, trivial⟩
        · show StepRQ _ _ _ _ _ _ _ _ _ -- 34
          unfold StepRQ
          intro qn hq u w_ hj hd K hK
          clear hd
          obtain ⟨k0, k1, _⟩ := HBK.out w_ hj.1
          clear hj
          go_simp
          exact hK.out _ rfl
        · show StepRQ _ _ _ _ _ _ _ _ _ -- 35
          unfold StepRQ
          intro qn hq u w_ hj hd K hK
          clear hd
          clear hj
          go_simp
          exact hK.out _ rfl
        · show StepRQ _ _ _ _ _ _ _ _ _ -- 36
          unfold StepRQ
          intro qn hq u w_ hj hd K hK
          clear hd
          clear hj
          go_simp
          exact hK.out _ rfl
        · show StepRQ _ _ _ _ _ _ _ _ _ -- 37
          unfold StepRQ
          intro qn hq u w_ hj hd K hK
          have h35 : u 35 = .slice (some ⟨b, off, none⟩) n c := hd.get 1 (by kernel_rfl)
          have h36 : u 36 = .int .i64 (i : Int) := hd.get 2 (by kernel_rfl)
          clear hd
          simp only [h35, h36] at hK
          clear hj
          go_simp
          exact hK.out _ rfl
        · show StepRQ _ _ _ _ _ _ _ _ _ -- 38
          unfold StepRQ
          intro qn hq u w_ hj hd K hK
          have h37 : u 37 = .pointer (some ⟨b, off + i * 2, none⟩) := hd.get 3 (by kernel_rfl)
          clear hd
          simp only [h37] at hK
          obtain ⟨_, _, k0, k1⟩ := HBK.out w_ hj.1
          clear hj
          go_simp
          exact hK.out _ rfl
        · show StepWQ _ _ _ _ _ _ _ _ _ -- 39
          unfold StepWQ
          intro u w_ hj hd K hK
          have h34 : u 34 = .agg #[.int .u64 kd, .func (.func F) #[] #[]] := hd.get 0 (by kernel_rfl)
          have h38 : u 38 = .agg #[.int .u64 y, .slice qa qn qc] := hd.get 4 (by kernel_rfl)
          clear hd
          simp only [h34, h38] at hK
          have HJ : Hid _ := hj
          clear hj
          go_simp
          refine Calls.mono (HCL.out w_ HJ.out.1 HJ.out.2) ?_
          rintro z w2 ⟨rfl, hb2, c2⟩
          exact hK.out _ w2 ⟨HJ.out.1.trans c2 (fun _ e => .inl e), hb2⟩ rfl
      · intro u w7 hj hA K hK
        have HJ : Hid _ := hj
        have he : u 39 = .int .i64 E := hA.at 39 (by kernel_rfl)
        clear hj hA
        simp only [he] at hK ⊢
        go_simp
        refine hK.out _ _ ?_
        have HC7 : Hid (Chg (fun _ => False) w w7) := HW.out.1.trans HJ.out.1 (fun g e => .inr (by have := HGB.out; omega))
        have HG7 : Hid (w7.heap[G]? = some (.cells #[.int .u64 3, .func (.func 53) #[] #[], .int .u64 33, .func (.func 54) #[] #[]] 72 (0, 0))) := blk_keep HW.out.2.1 HJ.out.1 (fun e => by have := HGB.out; omega)
        have HF7 : Hid (E = 0 → fldT ((zsF (l.map FlV.f)).take (i + 1)) (0, 0) = some (t1, t2)) := fun e => by
          have h1 := fldT_next HZ.out HW.out.2.2 (by show tkE id q.f = 0; rw [HE.out.1, e])
          rw [h1]
          show some (tkS id q.f (s1, s2)) = _
          rw [HE.out.2]
        have HN7 : Hid (E ≠ 0 → Cn20.readF (l.map FlV.f) = (0, 0, 4)) := fun e => by
          rw [HRF.out, fldT_stop HZ.out HW.out.2.2 (by show tkE id q.f ≠ 0; rw [HE.out.1]; exact e)]
        rcases HEE.out with h0 | h4
        · subst h0
          clear HW HCL HBK HB0
          go_wp2
          go_roundw
          case rel => exact ⟨i + 1, t1, t2, by omega, by go_num, HJ.out.2, HG7.out, HC7.out, HF7.out rfl⟩
          case measure => simp [intOf]; omega
        · subst h4
          have HN8 : Hid (Cn20.readF (l.map FlV.f) = (0, 0, 4)) := HN7.out (by decide)
          clear HW HCL HBK HB0
          go_wp2
          go_ret3
          exact ⟨by rw [HN8.out]; rfl, HC7.out⟩
/-- What is asked of chains holds of the landed ones. -/
theorem chainSpec : ChainSpec Vint.Tab where
  keep := fun h hc => h.new hc
  put := fun id a n c bs w hT h => put20_any id a n c bs w hT h
  get := fun ad n cp bs w hT h hd hc hn => get20_any ad n cp bs w h hd hc hn
  read := fun ad n c l w hT h hl hc hn => by
    by_cases h12 : n = 1 ∨ n = 2
    · exact read20_in ad n c l w h hl h12 hc
    · rw [read_far (by rw [List.length_map]; omega)]
      exact read20_far ad n c w (by omega) hn
/-- What the rows lay gives the table. -/
theorem vtab_of_laid {W : World} (h : Tab W) : Vint.Tab W := fun k hk => by
  rcases k with _ | _ | _ | _ | _ | _ | _ | _ | k
  · exact tab_at1 h rfl
  · exact tab_at1 h rfl
  · exact tab_at1 h rfl
  · exact tab_at1 h rfl
  · exact tab_at1 h rfl
  · exact tab_at1 h rfl
  · exact tab_at1 h rfl
  · exact tab_at1 h rfl
  · omega
end Go.Proofs.YtkncbanodpfccaaDoor
