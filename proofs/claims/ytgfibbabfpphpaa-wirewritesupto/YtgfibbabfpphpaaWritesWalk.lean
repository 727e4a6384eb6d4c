/- The walk through the statement WireWrites, of no statement by itself. -/
import Derived.Test.YtgfibbabfpphpaaWritesAny
import Derived.Test.YtgfibbabfpphpaaReadsMain
namespace Go.Proofs.Ytgfibbabfpphpaa
open Go.RowKit
set_option linter.unusedSimpArgs false

theorem tw_start {B a ra : Nat} {w : World} (ha : w.heap[a]? = some (.cells #[.int .i64 0, .slice none 0 0] 75 (0, 0))) (hr : w.heap[ra]? = some (.cells #[.slice none 0 0] 44 (0, 0))) (h1 : B ≤ a) (h2 : B ≤ ra) : TW B w a (.slice none 0 0) ra (.slice none 0 0) [] :=
  ⟨⟨h1, ha, World.ownsRow_nil _ _ _ _⟩, ⟨h2, hr, World.ownsRow_nil _ _ _ _⟩, fun g e => by simp [Value.ownBlock] at e⟩

theorem feet_start {a ra k : Nat} (f : Feet a (.slice none 0 0) ra (.slice none 0 0) k) : k = a ∨ k = ra := by
  rcases f with (f | f) | (f | f)
  · exact .inl f
  · simp [Value.ownBlock] at f
  · exact .inr f
  · simp [Value.ownBlock] at f

/-- What the document's writer holds, told of it alone. -/
theorem fin_rw {B : Nat} {w : World} {ra : Nat} {va : Option Addr} {n vc : Nat} {bs : List Int} (h : RW B w ra (.slice va n vc) bs) : w.cell? ⟨ra, 0, none⟩ = some (.slice va n vc) ∧ (convert 22 9 (.slice va n vc)).run Try.prog w = .ok (.string (strOfNums bs)) w := by
  have hb := h.blk
  refine ⟨by simp [World.cell?, hb], ?_⟩
  obtain ⟨ad, c, e, hr⟩ := own_row8 h.row
  simp only [Value.slice.injEq] at e
  obtain ⟨rfl, rfl, rfl⟩ := e
  exact conv8_here hr

theorem off_all {hs : List Hd} {S : Nat → Prop} (h : Off hs S) {b : Nat} (hb : ∃ y ∈ hs, y.v.ownBlock = some b) : ¬ S b := by
  obtain ⟨y, hm, e⟩ := hb
  obtain ⟨i, hi⟩ := List.mem_iff_getElem?.1 hm
  exact h i y hi b e

/-- What the document's writer holds: its cell, and its bytes as a string. -/
theorem fin_facts {B : Nat} {w : World} {a ra : Nat} {v : Value} {va : Option Addr} {n vc : Nat} {bs : List Int} (h : TW B w a v ra (.slice va n vc) bs) : w.cell? ⟨ra, 0, none⟩ = some (.slice va n vc) ∧ (convert 22 9 (.slice va n vc)).run Try.prog w = .ok (.string (strOfNums bs)) w := by
  have hb := h.rw.blk
  refine ⟨by simp [World.cell?, hb], ?_⟩
  obtain ⟨ad, c, e, hr⟩ := own_row8 h.rw.row
  simp only [Value.slice.injEq] at e
  obtain ⟨rfl, rfl, rfl⟩ := e
  exact conv8_here hr

/-- An operation taken first, its slot told. -/
theorem take_at {P : Program} {md : Region.Mode} {ops : Array Oper} {Q : Exit → Act → World → Prop} {S : World → Prop} {i : Nat} {oi : Oper} {d : Option Tmp} {v : Value} {fuel : Nat} {listed : Array Bool} {a : Act} {w : World} (hi : ops[i]? = some oi) (hd : oi.dst = d)
    (hs : Region.noSelect ops = true) (hf : Region.free md ops listed i = true) (hr : (Region.ready md ops listed).contains i = true)
    (hQ : ∀ c a w, Q (.panic c) (a.put d v) w → Q (.panic c) a w) (hy : YieldsIf P ops S oi v a) (hS : S w)
    (h : wpAnyH P md ops Q S fuel (listed.setIfInBounds i true) (a.put d v) w) : wpAnyH P md ops Q S (fuel + 1) listed a w := by
  subst hd
  exact wpAnyH_take hi hs hf hr hQ hy hS h

/-- What is known of the world while the last line is worked out: the document's two lists, as cells and as strings. -/
def Fin1 (rx : Nat) (A U : Value) (s1 s2 : ByteArray) (w : World) : Prop :=
  w.cell? ⟨rx, 0, none⟩ = some A ∧ w.cell? ⟨rx + 1, 0, none⟩ = some U ∧ (convert 22 9 A).run Try.prog w = .ok (.string s1) w ∧ (convert 22 9 U).run Try.prog w = .ok (.string s2) w
/-- Beside it: one list more, as a string. -/
def Fin2 (S : World → Prop) (N : Value) (s : ByteArray) (w : World) : Prop := S w ∧ (convert 22 9 N).run Try.prog w = .ok (.string s) w

/-- More may be asked of the world than must be. -/
theorem wpAnyH_strong {P : Program} {md : Region.Mode} {ops : Array Oper} {Q : Exit → Act → World → Prop} {S T : World → Prop} (h : ∀ w, T w → S w) : ∀ (fuel : Nat) (listed : Array Bool) (a : Act) (w : World), wpAnyH P md ops Q T fuel listed a w → wpAnyH P md ops Q S fuel listed a w
  | 0, _, _, _, k => k
  | fuel + 1, _, _, _, k => ⟨k.1, fun i hi => wpOp_mono (fun a' w' h' => ⟨h w' h'.1, wpAnyH_strong h fuel _ a' w' h'.2⟩) (k.2 i hi)⟩

set_option maxRecDepth 100000 in
set_option maxHeartbeats 4000000 in
theorem writesWalk (sa : Option Addr) (sl sc sb soff : Nat) (os : List Opv) (w : World)
    (hsa : 0 < sl → sa = some ⟨sb, soff, none⟩) (hos : os.length = sl) (hop : OpsAt w sb soff os) (hsl : sl ≤ 1048576)
    (ho : ∀ o ∈ os, (0 ≤ o.v ∧ o.v < 18446744073709551616) ∧ (∃ zs, Row8 w o.ad o.m o.c zs) ∧ o.m ≤ 1048576) :
    Calls Try.prog 6 #[.slice sa sl sc] w fun e w' => e = .returned (.bool true) ∧ Below w.heap.size w w' := by
  go_enter Try.func6, Try.ntmps6
  go_wp2_with fail
  refine (newWriter_any _).mono ?_
  rintro e w1 ⟨rfl, rfl⟩
  have hb1 := heap_alloc_new w (.cells #[.int .i64 0, .slice none 0 0] 75)
  have hC1 : Chg (fun k => w.heap.size ≤ k) w (w.alloc (.cells #[.int .i64 0, .slice none 0 0] 75)) := chg_one _ w _
  have hs1 : w.heap.size < (w.alloc (.cells #[.int .i64 0, .slice none 0 0] 75)).heap.size := lt_of_blk hb1
  generalize w.alloc (.cells #[.int .i64 0, .slice none 0 0] 75) = w1 at *
  go_wp2_with fail
  refine (newWriter_any _).mono ?_
  rintro e w2 ⟨rfl, rfl⟩
  have hb2 := heap_alloc_new w1 (.cells #[.int .i64 0, .slice none 0 0] 75)
  have ha2 := blk_keep hb1 (chg_one (fun _ => False) w1 (.cells #[.int .i64 0, .slice none 0 0] 75)) (fun f => f)
  have hC2 : Chg (fun k => w.heap.size ≤ k) w (w1.alloc (.cells #[.int .i64 0, .slice none 0 0] 75)) := hC1.alloc _
  have hs2 : w1.heap.size < (w1.alloc (.cells #[.int .i64 0, .slice none 0 0] 75)).heap.size := lt_of_blk hb2
  generalize w1.alloc (.cells #[.int .i64 0, .slice none 0 0] 75) = w2 at *
  clear hb1 hC1
  have hO3 := chg_one (fun _ => False) w2 (.cells #[.slice none 0 0] 44)
  have hb3 := heap_alloc_new w2 (.cells #[.slice none 0 0] 44)
  have hs3 : (w2.alloc (.cells #[.slice none 0 0] 44)).heap.size = w2.heap.size + 1 := by simp
  have hO4 := chg_one (fun _ => False) (w2.alloc (.cells #[.slice none 0 0] 44)) (.cells #[.slice none 0 0] 44)
  have hb4 := heap_alloc_new (w2.alloc (.cells #[.slice none 0 0] 44)) (.cells #[.slice none 0 0] 44)
  rw [hs3] at hb4
  have hA : All w.heap.size ((w2.alloc (.cells #[.slice none 0 0] 44)).alloc (.cells #[.slice none 0 0] 44)) w.heap.size (.slice none 0 0) w2.heap.size (.slice none 0 0) [] w1.heap.size (.slice none 0 0) (w2.heap.size + 1) (.slice none 0 0) [] (.slice none 0 0) [] :=
    ⟨tw_start (blk_keep (blk_keep ha2 hO3 (fun f => f)) hO4 (fun f => f)) (blk_keep hb3 hO4 (fun f => f)) (Nat.le_refl _) (by omega), tw_start (blk_keep (blk_keep hb2 hO3 (fun f => f)) hO4 (fun f => f)) hb4 (by omega) (by omega),
      fun k f g => by
        rcases feet_start f with f | f <;> rcases feet_start g with g | g <;> omega, Bk.nil _ _, fun i y e => by simp at e, fun i y e => by simp at e⟩
  have hC4 : Chg (fun k => w.heap.size ≤ k) w ((w2.alloc (.cells #[.slice none 0 0] 44)).alloc (.cells #[.slice none 0 0] 44)) := (hC2.alloc _).alloc _
  have HA : Hid (All w.heap.size ((w2.alloc (.cells #[.slice none 0 0] 44)).alloc (.cells #[.slice none 0 0] 44)) w.heap.size (.slice none 0 0) w2.heap.size (.slice none 0 0) [] w1.heap.size (.slice none 0 0) (w2.heap.size + 1) (.slice none 0 0) [] (.slice none 0 0) []) := hA
  clear hA hb2 hb3 hb4 ha2 hO3 hO4 hC2 hs3
  go_wp2_with fail
  generalize (w2.alloc (.cells #[.slice none 0 0] 44)).alloc (.cells #[.slice none 0 0] 44) = wX at *
  generalize w2.heap.size = rx at *
  generalize w1.heap.size = bx at *
  have HS : Hid (0 < sl → sa = some ⟨sb, soff, none⟩) := hsa
  clear hsa
  go_loopw [7, 25] (fun l i wr => ∃ k : Nat, k ≤ sl ∧ i = .int .i64 k ∧ (∃ v rv bs u ru cs hs, All w.heap.size wr w.heap.size v rx rv bs bx u (rx + 1) ru cs l hs ∧ bs.length ≤ 1048576 * k ∧ cs.length ≤ 1048576 * k ∧ hs.length ≤ 2 * k) ∧ Chg (fun k => w.heap.size ≤ k) w wr) (fun _ i _ => sl - (intOf i).toNat)
  case atStart => exact ⟨0, Nat.zero_le _, rfl, ⟨_, _, _, _, _, _, _, HA.out, by simp, by simp, by simp⟩, hC4⟩
  case round =>
    clear HA hC4
    obtain ⟨k, hk, rfl, ⟨v, rv, bs, u, ru, cs, hs, hA, hl1, hl2, hl3⟩, hC⟩ := hrel
    by_cases hlt : k < sl
    · obtain rfl := HS.out (by omega)
      obtain ⟨o, hok⟩ : ∃ o, os[k]? = some o := ⟨os[k], List.getElem?_eq_getElem (by omega)⟩
      obtain ⟨e0, e1, e2, e3, e4⟩ := hop.at hC k o hok
      obtain ⟨⟨ov0, ov1⟩, ⟨zs, hz⟩, om⟩ := ho o (List.mem_of_getElem? hok)
      obtain ⟨kind, two, n, x, ba, bl, bc⟩ := o
      simp only at e0 e1 e2 e3 e4 ov0 ov1 hz om
      have hO := chg_one (fun _ => False) wr (.cells #[.int .i64 kind, .bool two, .int .i64 n, .int .u64 x, .slice ba bl bc] 47)
      have hAa := hA.new hO
      have hCa := chg_then hC hO
      clear hA hC hO hop hok ho
      cases two with
      | true =>
        go_wp2_with fail
        refine (writes_any _ _ _ _ _ _ _ _ _ _ zs kind true n x ba bl bc _ hs w _ hAa.swap (by omega) hz om hCa ov0 ov1 (by omega)).mono ?_
        rintro e wB ⟨lv', rfl, v', rv', bs', hs', hAb, q1, q2, hCb⟩
        clear hAa hCa e0 e1 e2 e3 e4
        go_wp2
        go_roundw
        case rel => exact ⟨k + 1, by omega, by go_num, ⟨_, _, _, _, _, _, _, hAb.swap, by omega, by omega, by omega⟩, hCb⟩
        case measure => simp [intOf]; omega
      | false =>
        go_wp2_with fail
        refine (writes_any _ _ _ _ _ _ _ _ _ _ zs kind false n x ba bl bc _ hs w _ hAa (by omega) hz om hCa ov0 ov1 (by omega)).mono ?_
        rintro e wB ⟨lv', rfl, v', rv', bs', hs', hAb, q1, q2, hCb⟩
        clear hAa hCa e0 e1 e2 e3 e4
        go_wp2
        go_roundw
        case rel => exact ⟨k + 1, by omega, by go_num, ⟨_, _, _, _, _, _, _, hAb, by omega, by omega, by omega⟩, hCb⟩
        case measure => simp [intOf]; omega
    · obtain rfl : k = sl := by omega
      clear hop ho
      obtain ⟨ra', rc', rfl⟩ := own_form hA.1.rw.row
      obtain ⟨ua', uc', rfl⟩ := own_form hA.2.1.rw.row
      have hD : Chg (fun _ => False) wr wr.drew := ⟨rfl, rfl, rfl, Nat.le_refl _, fun _ _ _ => rfl⟩
      have HA := hA.new hD
      have hCd := chg_then hC hD
      obtain ⟨f1, f2⟩ := fin_facts HA.1
      obtain ⟨f3, f4⟩ := fin_facts HA.2.1
      clear hA hC hD
      go_wp2_with fail
      have hh : hs.length ≤ 16777216 := by omega
      have hbl : bs.length ≤ 140737488355328 := by omega
      have hcl : cs.length ≤ 140737488355328 := by omega
      refine wp_region_noPanic ?_
      refine wp_region_held_drew (S := Fin1 rx (.slice ra' bs.length rc') (.slice ua' cs.length uc') (strOfNums bs) (strOfNums cs)) (by kernel_rfl) ⟨f1, f3, f2, f4⟩ (fun hHeld => ?_)
      refine take_at (i := 0) (d := some 50) (v := ?_) rfl rfl (by kernel_rfl) (by kernel_rfl) (by kernel_rfl) (fun _ _ _ h => h) (Or.inl ⟨by rfl, ?_⟩) (by assumption) ?_
      rotate_left
      · intro w hSw; obtain ⟨y1, y2, y3, y4⟩ := hSw; first | (go_simp; done) | (go_simp; with_reducible rfl)
      simp only [Act.put, List.setIfInBounds_toArray, List.set_cons_zero, List.set_cons_succ]
      refine take_at (i := 3) (d := some 53) (v := ?_) rfl rfl (by kernel_rfl) (by kernel_rfl) (by kernel_rfl) (fun _ _ _ h => h) (Or.inl ⟨by rfl, ?_⟩) (by assumption) ?_
      rotate_left
      · intro w hSw; obtain ⟨y1, y2, y3, y4⟩ := hSw; first | (go_simp; done) | (go_simp; with_reducible rfl)
      simp only [Act.put, List.setIfInBounds_toArray, List.set_cons_zero, List.set_cons_succ]
      refine take_at (i := 4) (d := some 54) (v := ?_) rfl rfl (by kernel_rfl) (by kernel_rfl) (by kernel_rfl) (fun _ _ _ h => h) (Or.inl ⟨by rfl, ?_⟩) (by assumption) ?_
      rotate_left
      · intro w hSw; obtain ⟨y1, y2, y3, y4⟩ := hSw; first | (go_simp; done) | (go_simp; with_reducible rfl)
      simp only [Act.put, List.setIfInBounds_toArray, List.set_cons_zero, List.set_cons_succ]
      refine take_at (i := 5) (d := some 55) (v := ?_) rfl rfl (by kernel_rfl) (by kernel_rfl) (by kernel_rfl) (fun _ _ _ h => h) (Or.inl ⟨by rfl, ?_⟩) (by assumption) ?_
      rotate_left
      · intro w hSw; obtain ⟨y1, y2, y3, y4⟩ := hSw; first | (go_simp; done) | (go_simp; with_reducible rfl)
      simp only [Act.put, List.setIfInBounds_toArray, List.set_cons_zero, List.set_cons_succ]
      refine take_at (i := 6) (d := some 56) (v := ?_) rfl rfl (by kernel_rfl) (by kernel_rfl) (by kernel_rfl) (fun _ _ _ h => h) (Or.inl ⟨by rfl, ?_⟩) (by assumption) ?_
      rotate_left
      · intro w hSw; obtain ⟨y1, y2, y3, y4⟩ := hSw; first | (go_simp; done) | (go_simp; with_reducible rfl)
      simp only [Act.put, List.setIfInBounds_toArray, List.set_cons_zero, List.set_cons_succ]
      refine take_at (i := 7) (d := some 57) (v := ?_) rfl rfl (by kernel_rfl) (by kernel_rfl) (by kernel_rfl) (fun _ _ _ h => h) (Or.inl ⟨by rfl, ?_⟩) (by assumption) ?_
      rotate_left
      · intro w hSw; obtain ⟨y1, y2, y3, y4⟩ := hSw; first | (go_simp; done) | (go_simp; with_reducible rfl)
      simp only [Act.put, List.setIfInBounds_toArray, List.set_cons_zero, List.set_cons_succ]
      refine wpAnyH_ready (rs := [1]) (by kernel_rfl) (by simp) ?_
      refine AllReadyH.cons (o := ⟨some 51, .call ⟨.value (.func 21), #[.tmp 50], #[31]⟩, _, _, _, _⟩) rfl (fun K hK => ?_) AllReadyH.nil
      go_simp
      go_at_call 21
      refine (bytes_any _ _ _ bs _ HA.1.wr hbl).mono ?_
      rintro e w2 ⟨rfl, hq2, hc2⟩
      have HA2 := HA.new hc2
      obtain ⟨g1, g2⟩ := fin_facts HA2.1
      obtain ⟨g3, g4⟩ := fin_facts HA2.2.1
      have gc2 : (convert 22 9 (.slice (some ⟨wr.heap.size, 0, none⟩) bs.length bs.length)).run Try.prog w2 = .ok (.string (strOfNums bs)) w2 := conv8_here (row8_blk hq2 bs.length rfl bs.length)
      refine hK.out _ _ ⟨g1, g3, g2, g4⟩ (fun hHeld2 => ?_)
      clear hK K hHeld
      refine wpAnyH_strong (T := Fin2 (Fin1 rx (.slice ra' bs.length rc') (.slice ua' cs.length uc') (strOfNums bs) (strOfNums cs)) (.slice (some ⟨wr.heap.size, 0, none⟩) bs.length bs.length) (strOfNums bs)) (fun _ h => h.1) _ _ _ _ ?_
      have hHeld3 : Fin2 (Fin1 rx (.slice ra' bs.length rc') (.slice ua' cs.length uc') (strOfNums bs) (strOfNums cs)) (.slice (some ⟨wr.heap.size, 0, none⟩) bs.length bs.length) (strOfNums bs) w2 := ⟨hHeld2, gc2⟩
      clear hHeld2 f1 f2 f3 f4 g1 g2 g3 g4 gc2
      (try simp only [Act.put, List.setIfInBounds_toArray, List.set_cons_zero, List.set_cons_succ])
      refine take_at (i := 2) (d := some 52) (v := ?_) rfl rfl (by kernel_rfl) (by kernel_rfl) (by kernel_rfl) (fun _ _ _ h => h) (Or.inl ⟨by rfl, ?_⟩) (by assumption) ?_
      rotate_left
      · intro w hSw; obtain ⟨⟨y1, y2, y3, y4⟩, y5⟩ := hSw; first | (go_simp; done) | (go_simp; with_reducible rfl)
      simp only [Act.put, List.setIfInBounds_toArray, List.set_cons_zero, List.set_cons_succ]
      refine take_at (i := 8) (d := some 58) (v := ?_) rfl rfl (by kernel_rfl) (by kernel_rfl) (by kernel_rfl) (fun _ _ _ h => h) (Or.inl ⟨by rfl, ?_⟩) (by assumption) ?_
      rotate_left
      · intro w hSw; obtain ⟨⟨y1, y2, y3, y4⟩, y5⟩ := hSw; first | (go_simp; done) | (go_simp; with_reducible rfl)
      simp only [Act.put, List.setIfInBounds_toArray, List.set_cons_zero, List.set_cons_succ]
      refine take_at (i := 9) (d := some 59) (v := ?_) rfl rfl (by kernel_rfl) (by kernel_rfl) (by kernel_rfl) (fun _ _ _ h => h) (Or.inl ⟨by rfl, ?_⟩) (by assumption) ?_
      rotate_left
      · intro w hSw; obtain ⟨⟨y1, y2, y3, y4⟩, y5⟩ := hSw; first | (go_simp; done) | (go_simp; with_reducible rfl)
      simp only [Act.put, List.setIfInBounds_toArray, List.set_cons_zero, List.set_cons_succ]
      refine take_at (i := 10) (d := some 60) (v := ?_) rfl rfl (by kernel_rfl) (by kernel_rfl) (by kernel_rfl) (fun _ _ _ h => h) (Or.inl ⟨by rfl, ?_⟩) (by assumption) ?_
      rotate_left
      · intro w hSw; obtain ⟨⟨y1, y2, y3, y4⟩, y5⟩ := hSw; first | (go_simp; done) | (go_simp; with_reducible rfl)
      simp only [Act.put, List.setIfInBounds_toArray, List.set_cons_zero, List.set_cons_succ]
      refine take_at (i := 13) (d := some 63) (v := ?_) rfl rfl (by kernel_rfl) (by kernel_rfl) (by kernel_rfl) (fun _ _ _ h => h) (Or.inl ⟨by rfl, ?_⟩) (by assumption) ?_
      rotate_left
      · intro w hSw; obtain ⟨⟨y1, y2, y3, y4⟩, y5⟩ := hSw; first | (go_simp; done) | (go_simp; with_reducible rfl)
      simp only [Act.put, List.setIfInBounds_toArray, List.set_cons_zero, List.set_cons_succ]
      refine take_at (i := 14) (d := some 64) (v := ?_) rfl rfl (by kernel_rfl) (by kernel_rfl) (by kernel_rfl) (fun _ _ _ h => h) (Or.inl ⟨by rfl, ?_⟩) (by assumption) ?_
      rotate_left
      · intro w hSw; obtain ⟨⟨y1, y2, y3, y4⟩, y5⟩ := hSw; first | (go_simp; done) | (go_simp; with_reducible rfl)
      simp only [Act.put, List.setIfInBounds_toArray, List.set_cons_zero, List.set_cons_succ]
      refine take_at (i := 15) (d := some 65) (v := ?_) rfl rfl (by kernel_rfl) (by kernel_rfl) (by kernel_rfl) (fun _ _ _ h => h) (Or.inl ⟨by rfl, ?_⟩) (by assumption) ?_
      rotate_left
      · intro w hSw; obtain ⟨⟨y1, y2, y3, y4⟩, y5⟩ := hSw; first | (go_simp; done) | (go_simp; with_reducible rfl)
      simp only [Act.put, List.setIfInBounds_toArray, List.set_cons_zero, List.set_cons_succ]
      refine take_at (i := 16) (d := some 66) (v := ?_) rfl rfl (by kernel_rfl) (by kernel_rfl) (by kernel_rfl) (fun _ _ _ h => h) (Or.inl ⟨by rfl, ?_⟩) (by assumption) ?_
      rotate_left
      · intro w hSw; obtain ⟨⟨y1, y2, y3, y4⟩, y5⟩ := hSw; first | (go_simp; done) | (go_simp; with_reducible rfl)
      simp only [Act.put, List.setIfInBounds_toArray, List.set_cons_zero, List.set_cons_succ]
      refine take_at (i := 17) (d := some 67) (v := ?_) rfl rfl (by kernel_rfl) (by kernel_rfl) (by kernel_rfl) (fun _ _ _ h => h) (Or.inl ⟨by rfl, ?_⟩) (by assumption) ?_
      rotate_left
      · intro w hSw; obtain ⟨⟨y1, y2, y3, y4⟩, y5⟩ := hSw; first | (go_simp; done) | (go_simp; with_reducible rfl)
      simp only [Act.put, List.setIfInBounds_toArray, List.set_cons_zero, List.set_cons_succ]
      refine wpAnyH_ready (rs := [11]) (by kernel_rfl) (by simp) ?_
      refine AllReadyH.cons (o := ⟨some 61, .call ⟨.value (.func 21), #[.tmp 60], #[31]⟩, _, _, _, _⟩) rfl (fun K hK => ?_) AllReadyH.nil
      go_simp
      go_at_call 21
      refine (bytes_any _ _ _ cs _ HA2.2.1.wr hcl).mono ?_
      rintro e w3 ⟨rfl, hq3, hc3⟩
      have HA3 := HA2.new hc3
      obtain ⟨g1, g2⟩ := fin_facts HA3.1
      obtain ⟨g3, g4⟩ := fin_facts HA3.2.1
      have hq23 := blk_keep hq2 hc3 (fun f => f)
      have gc2 : (convert 22 9 (.slice (some ⟨wr.heap.size, 0, none⟩) bs.length bs.length)).run Try.prog w3 = .ok (.string (strOfNums bs)) w3 := conv8_here (row8_blk hq23 bs.length rfl bs.length)
      have gc3 : (convert 22 9 (.slice (some ⟨w2.heap.size, 0, none⟩) cs.length cs.length)).run Try.prog w3 = .ok (.string (strOfNums cs)) w3 := conv8_here (row8_blk hq3 cs.length rfl cs.length)
      refine hK.out _ _ ⟨⟨g1, g3, g2, g4⟩, gc2⟩ (fun hHeld4 => ?_)
      clear hK K hHeld3
      refine wpAnyH_strong (T := Fin2 (Fin2 (Fin1 rx (.slice ra' bs.length rc') (.slice ua' cs.length uc') (strOfNums bs) (strOfNums cs)) (.slice (some ⟨wr.heap.size, 0, none⟩) bs.length bs.length) (strOfNums bs)) (.slice (some ⟨w2.heap.size, 0, none⟩) cs.length cs.length) (strOfNums cs)) (fun _ h => h.1) _ _ _ _ ?_
      have hHeld5 : Fin2 (Fin2 (Fin1 rx (.slice ra' bs.length rc') (.slice ua' cs.length uc') (strOfNums bs) (strOfNums cs)) (.slice (some ⟨wr.heap.size, 0, none⟩) bs.length bs.length) (strOfNums bs)) (.slice (some ⟨w2.heap.size, 0, none⟩) cs.length cs.length) (strOfNums cs) w3 := ⟨hHeld4, gc3⟩
      clear hHeld4 g1 g2 g3 g4 gc2 gc3
      (try simp only [Act.put, List.setIfInBounds_toArray, List.set_cons_zero, List.set_cons_succ])
      refine take_at (i := 12) (d := some 62) (v := ?_) rfl rfl (by kernel_rfl) (by kernel_rfl) (by kernel_rfl) (fun _ _ _ h => h) (Or.inl ⟨by rfl, ?_⟩) (by assumption) ?_
      rotate_left
      · intro w hSw; obtain ⟨⟨⟨y1, y2, y3, y4⟩, y5⟩, y6⟩ := hSw; first | (go_simp; done) | (go_simp; with_reducible rfl)
      simp only [Act.put, List.setIfInBounds_toArray, List.set_cons_zero, List.set_cons_succ]
      refine take_at (i := 18) (d := some 68) (v := ?_) rfl rfl (by kernel_rfl) (by kernel_rfl) (by kernel_rfl) (fun _ _ _ h => h) (Or.inl ⟨by rfl, ?_⟩) (by assumption) ?_
      rotate_left
      · intro w hSw; obtain ⟨⟨⟨y1, y2, y3, y4⟩, y5⟩, y6⟩ := hSw; first | (go_simp; done) | (go_simp; with_reducible rfl)
      simp only [Act.put, List.setIfInBounds_toArray, List.set_cons_zero, List.set_cons_succ]
      refine take_at (i := 19) (d := some 69) (v := ?_) rfl rfl (by kernel_rfl) (by kernel_rfl) (by kernel_rfl) (fun _ _ _ h => h) (Or.inl ⟨by rfl, ?_⟩) (by assumption) ?_
      rotate_left
      · intro w hSw; obtain ⟨⟨⟨y1, y2, y3, y4⟩, y5⟩, y6⟩ := hSw; first | (go_simp; done) | (go_simp; with_reducible rfl)
      simp only [Act.put, List.setIfInBounds_toArray, List.set_cons_zero, List.set_cons_succ]
      refine take_at (i := 20) (d := some 70) (v := ?_) rfl rfl (by kernel_rfl) (by kernel_rfl) (by kernel_rfl) (fun _ _ _ h => h) (Or.inl ⟨by rfl, ?_⟩) (by assumption) ?_
      rotate_left
      · intro w hSw; obtain ⟨⟨⟨y1, y2, y3, y4⟩, y5⟩, y6⟩ := hSw; first | (go_simp; done) | (go_simp; with_reducible rfl)
      simp only [Act.put, List.setIfInBounds_toArray, List.set_cons_zero, List.set_cons_succ]
      refine take_at (i := 21) (d := some 71) (v := ?_) rfl rfl (by kernel_rfl) (by kernel_rfl) (by kernel_rfl) (fun _ _ _ h => h) (Or.inl ⟨by rfl, ?_⟩) (by assumption) ?_
      rotate_left
      · intro w hSw; obtain ⟨⟨⟨y1, y2, y3, y4⟩, y5⟩, y6⟩ := hSw; first | (go_simp; done) | (go_simp; with_reducible rfl)
      simp only [Act.put, List.setIfInBounds_toArray, List.set_cons_zero, List.set_cons_succ]
      refine take_at (i := 23) (d := some 73) (v := ?_) rfl rfl (by kernel_rfl) (by kernel_rfl) (by kernel_rfl) (fun _ _ _ h => h) (Or.inl ⟨by rfl, ?_⟩) (by assumption) ?_
      rotate_left
      · intro w hSw; obtain ⟨⟨⟨y1, y2, y3, y4⟩, y5⟩, y6⟩ := hSw; first | (go_simp; done) | (go_simp; with_reducible rfl)
      simp only [Act.put, List.setIfInBounds_toArray, List.set_cons_zero, List.set_cons_succ]
      refine take_at (i := 24) (d := some 74) (v := ?_) rfl rfl (by kernel_rfl) (by kernel_rfl) (by kernel_rfl) (fun _ _ _ h => h) (Or.inl ⟨by rfl, ?_⟩) (by assumption) ?_
      rotate_left
      · intro w hSw; obtain ⟨⟨⟨y1, y2, y3, y4⟩, y5⟩, y6⟩ := hSw; first | (go_simp; done) | (go_simp; with_reducible rfl)
      simp only [Act.put, List.setIfInBounds_toArray, List.set_cons_zero, List.set_cons_succ]
      refine take_at (i := 25) (d := some 75) (v := ?_) rfl rfl (by kernel_rfl) (by kernel_rfl) (by kernel_rfl) (fun _ _ _ h => h) (Or.inl ⟨by rfl, ?_⟩) (by assumption) ?_
      rotate_left
      · intro w hSw; obtain ⟨⟨⟨y1, y2, y3, y4⟩, y5⟩, y6⟩ := hSw; first | (go_simp; done) | (go_simp; with_reducible rfl)
      simp only [Act.put, List.setIfInBounds_toArray, List.set_cons_zero, List.set_cons_succ]
      refine take_at (i := 26) (d := some 76) (v := ?_) rfl rfl (by kernel_rfl) (by kernel_rfl) (by kernel_rfl) (fun _ _ _ h => h) (Or.inl ⟨by rfl, ?_⟩) (by assumption) ?_
      rotate_left
      · intro w hSw; obtain ⟨⟨⟨y1, y2, y3, y4⟩, y5⟩, y6⟩ := hSw; first | (go_simp; done) | (go_simp; with_reducible rfl)
      simp only [Act.put, List.setIfInBounds_toArray, List.set_cons_zero, List.set_cons_succ]
      refine take_at (i := 27) (d := some 77) (v := ?_) rfl rfl (by kernel_rfl) (by kernel_rfl) (by kernel_rfl) (fun _ _ _ h => h) (Or.inl ⟨by rfl, ?_⟩) (by assumption) ?_
      rotate_left
      · intro w hSw; obtain ⟨⟨⟨y1, y2, y3, y4⟩, y5⟩, y6⟩ := hSw; first | (go_simp; done) | (go_simp; with_reducible rfl)
      simp only [Act.put, List.setIfInBounds_toArray, List.set_cons_zero, List.set_cons_succ]
      refine wpAnyH_ready (rs := [22]) (by kernel_rfl) (by simp) ?_
      refine AllReadyH.cons (o := ⟨some 72, .call ⟨.value (.func 17), #[.tmp 71], #[31]⟩, _, _, _, _⟩) rfl (fun K hK => ?_) AllReadyH.nil
      go_simp
      go_at_call 17
      refine (len_any _ _ _ bs _ HA3.1.wr).mono ?_
      rintro e w4 ⟨rfl, rfl⟩
      refine hK.out _ _ hHeld5 (fun hHeld6 => ?_)
      clear hK K hHeld6
      (try simp only [Act.put, List.setIfInBounds_toArray, List.set_cons_zero, List.set_cons_succ])
      refine take_at (i := 28) (d := some 78) (v := ?_) rfl rfl (by kernel_rfl) (by kernel_rfl) (by kernel_rfl) (fun _ _ _ h => h) (Or.inl ⟨by rfl, ?_⟩) (by assumption) ?_
      rotate_left
      · intro w hSw; obtain ⟨⟨⟨y1, y2, y3, y4⟩, y5⟩, y6⟩ := hSw; first | (go_simp; done) | (go_simp; with_reducible rfl)
      simp only [Act.put, List.setIfInBounds_toArray, List.set_cons_zero, List.set_cons_succ]
      refine take_at (i := 29) (d := some 79) (v := ?_) rfl rfl (by kernel_rfl) (by kernel_rfl) (by kernel_rfl) (fun _ _ _ h => h) (Or.inl ⟨by rfl, ?_⟩) (by assumption) ?_
      rotate_left
      · intro w hSw; obtain ⟨⟨⟨y1, y2, y3, y4⟩, y5⟩, y6⟩ := hSw; first | (go_simp; done) | (go_simp; with_reducible rfl)
      simp only [Act.put, List.setIfInBounds_toArray, List.set_cons_zero, List.set_cons_succ]
      refine take_at (i := 30) (d := some 80) (v := ?_) rfl rfl (by kernel_rfl) (by kernel_rfl) (by kernel_rfl) (fun _ _ _ h => h) (Or.inl ⟨by rfl, ?_⟩) (by assumption) ?_
      rotate_left
      · intro w hSw; obtain ⟨⟨⟨y1, y2, y3, y4⟩, y5⟩, y6⟩ := hSw; first | (go_simp; done) | (go_simp; with_reducible rfl)
      simp only [Act.put, List.setIfInBounds_toArray, List.set_cons_zero, List.set_cons_succ]
      refine take_at (i := 31) (d := some 81) (v := ?_) rfl rfl (by kernel_rfl) (by kernel_rfl) (by kernel_rfl) (fun _ _ _ h => h) (Or.inl ⟨by rfl, ?_⟩) (by assumption) ?_
      rotate_left
      · intro w hSw; obtain ⟨⟨⟨y1, y2, y3, y4⟩, y5⟩, y6⟩ := hSw; first | (go_simp; done) | (go_simp; with_reducible rfl)
      simp only [Act.put, List.setIfInBounds_toArray, List.set_cons_zero, List.set_cons_succ]
      refine take_at (i := 33) (d := some 83) (v := ?_) rfl rfl (by kernel_rfl) (by kernel_rfl) (by kernel_rfl) (fun _ _ _ h => h) (Or.inl ⟨by rfl, ?_⟩) (by assumption) ?_
      rotate_left
      · intro w hSw; obtain ⟨⟨⟨y1, y2, y3, y4⟩, y5⟩, y6⟩ := hSw; first | (go_simp; done) | (go_simp; with_reducible rfl)
      simp only [Act.put, List.setIfInBounds_toArray, List.set_cons_zero, List.set_cons_succ]
      refine take_at (i := 34) (d := some 84) (v := ?_) rfl rfl (by kernel_rfl) (by kernel_rfl) (by kernel_rfl) (fun _ _ _ h => h) (Or.inl ⟨by rfl, ?_⟩) (by assumption) ?_
      rotate_left
      · intro w hSw; obtain ⟨⟨⟨y1, y2, y3, y4⟩, y5⟩, y6⟩ := hSw; first | (go_simp; done) | (go_simp; with_reducible rfl)
      simp only [Act.put, List.setIfInBounds_toArray, List.set_cons_zero, List.set_cons_succ]
      refine take_at (i := 35) (d := some 85) (v := ?_) rfl rfl (by kernel_rfl) (by kernel_rfl) (by kernel_rfl) (fun _ _ _ h => h) (Or.inl ⟨by rfl, ?_⟩) (by assumption) ?_
      rotate_left
      · intro w hSw; obtain ⟨⟨⟨y1, y2, y3, y4⟩, y5⟩, y6⟩ := hSw; first | (go_simp; done) | (go_simp; with_reducible rfl)
      simp only [Act.put, List.setIfInBounds_toArray, List.set_cons_zero, List.set_cons_succ]
      refine take_at (i := 36) (d := some 86) (v := ?_) rfl rfl (by kernel_rfl) (by kernel_rfl) (by kernel_rfl) (fun _ _ _ h => h) (Or.inl ⟨by rfl, ?_⟩) (by assumption) ?_
      rotate_left
      · intro w hSw; obtain ⟨⟨⟨y1, y2, y3, y4⟩, y5⟩, y6⟩ := hSw; first | (go_simp; done) | (go_simp; with_reducible rfl)
      simp only [Act.put, List.setIfInBounds_toArray, List.set_cons_zero, List.set_cons_succ]
      refine take_at (i := 37) (d := some 87) (v := ?_) rfl rfl (by kernel_rfl) (by kernel_rfl) (by kernel_rfl) (fun _ _ _ h => h) (Or.inl ⟨by rfl, ?_⟩) (by assumption) ?_
      rotate_left
      · intro w hSw; obtain ⟨⟨⟨y1, y2, y3, y4⟩, y5⟩, y6⟩ := hSw; first | (go_simp; done) | (go_simp; with_reducible rfl)
      simp only [Act.put, List.setIfInBounds_toArray, List.set_cons_zero, List.set_cons_succ]
      refine wpAnyH_ready (rs := [32]) (by kernel_rfl) (by simp) ?_
      refine AllReadyH.cons (o := ⟨some 82, .call ⟨.value (.func 17), #[.tmp 81], #[31]⟩, _, _, _, _⟩) rfl (fun K hK => ?_) AllReadyH.nil
      go_simp
      go_at_call 17
      refine (len_any _ _ _ cs _ HA3.2.1.wr).mono ?_
      rintro e w4 ⟨rfl, rfl⟩
      refine hK.out _ _ hHeld5 (fun hHeld6 => ?_)
      clear hK K hHeld6
      (try simp only [Act.put, List.setIfInBounds_toArray, List.set_cons_zero, List.set_cons_succ])
      refine take_at (i := 38) (d := some 88) (v := ?_) rfl rfl (by kernel_rfl) (by kernel_rfl) (by kernel_rfl) (fun _ _ _ h => h) (Or.inl ⟨by rfl, ?_⟩) (by assumption) ?_
      rotate_left
      · intro w hSw; obtain ⟨⟨⟨y1, y2, y3, y4⟩, y5⟩, y6⟩ := hSw; first | (go_simp; done) | (go_simp; with_reducible rfl)
      simp only [Act.put, List.setIfInBounds_toArray, List.set_cons_zero, List.set_cons_succ]
      refine take_at (i := 39) (d := some 89) (v := ?_) rfl rfl (by kernel_rfl) (by kernel_rfl) (by kernel_rfl) (fun _ _ _ h => h) (Or.inl ⟨by rfl, ?_⟩) (by assumption) ?_
      rotate_left
      · intro w hSw; obtain ⟨⟨⟨y1, y2, y3, y4⟩, y5⟩, y6⟩ := hSw; first | (go_simp; done) | (go_simp; with_reducible rfl)
      simp only [Act.put, List.setIfInBounds_toArray, List.set_cons_zero, List.set_cons_succ]
      refine take_at (i := 40) (d := some 90) (v := ?_) rfl rfl (by kernel_rfl) (by kernel_rfl) (by kernel_rfl) (fun _ _ _ h => h) (Or.inl ⟨by rfl, ?_⟩) (by assumption) ?_
      rotate_left
      · intro w hSw; obtain ⟨⟨⟨y1, y2, y3, y4⟩, y5⟩, y6⟩ := hSw; first | (go_simp; done) | (go_simp; with_reducible rfl)
      simp only [Act.put, List.setIfInBounds_toArray, List.set_cons_zero, List.set_cons_succ]
      refine take_at (i := 41) (d := some 91) (v := ?_) rfl rfl (by kernel_rfl) (by kernel_rfl) (by kernel_rfl) (fun _ _ _ h => h) (Or.inl ⟨by rfl, ?_⟩) (by assumption) ?_
      rotate_left
      · intro w hSw; obtain ⟨⟨⟨y1, y2, y3, y4⟩, y5⟩, y6⟩ := hSw; first | (go_simp; done) | (go_simp; with_reducible rfl)
      simp only [Act.put, List.setIfInBounds_toArray, List.set_cons_zero, List.set_cons_succ]
      refine wpAnyH_ready (rs := [42]) (by kernel_rfl) (by simp) ?_
      refine AllReadyH.cons (o := ⟨some 92, .call ⟨.value (.func 24), #[.tmp 91], #[45]⟩, _, _, _, _⟩) rfl (fun K hK => ?_) AllReadyH.nil
      have hbk := HA3.2.2.2.1
      go_simp
      go_at_call 24
      refine (held_fine w.heap.size _ hs _ (chg_then (chg_then hCd hc2) hc3).size hbk.book hbk.rows hbk.apart hbk.ok hh hbk.small).mono ?_
      rintro e w5 ⟨rfl, hc5⟩
      have hR1 := HA3.1.rw.keep hc5 (fun f => off_all HA3.2.2.2.2.1 f (.inr (.inl rfl))) (fun g e f => off_all HA3.2.2.2.2.1 f (.inr (.inr e)))
      have hR2 := HA3.2.1.rw.keep hc5 (fun f => off_all HA3.2.2.2.2.2 f (.inr (.inl rfl))) (fun g e f => off_all HA3.2.2.2.2.2 f (.inr (.inr e)))
      obtain ⟨g1, g2⟩ := fin_rw hR1
      obtain ⟨g3, g4⟩ := fin_rw hR2
      have n1 : ¬ ∃ h ∈ hs, h.v.ownBlock = some wr.heap.size := fun ⟨h, hm, e⟩ => by
        obtain ⟨i, hi⟩ := List.mem_iff_getElem?.1 hm
        have : wr.heap.size < wr.drew.heap.size := ((HA.2.2.2.1.rows i h hi).lt e).2
        exact Nat.lt_irrefl _ this
      have n2 : ¬ ∃ h ∈ hs, h.v.ownBlock = some w2.heap.size := fun ⟨h, hm, e⟩ => by
        obtain ⟨i, hi⟩ := List.mem_iff_getElem?.1 hm
        have := ((HA2.2.2.2.1.rows i h hi).lt e).2
        exact Nat.lt_irrefl _ this
      have gc2 : (convert 22 9 (.slice (some ⟨wr.heap.size, 0, none⟩) bs.length bs.length)).run Try.prog w5 = .ok (.string (strOfNums bs)) w5 := conv8_here (row8_blk (blk_keep hq23 hc5 n1) bs.length rfl bs.length)
      have gc3 : (convert 22 9 (.slice (some ⟨w2.heap.size, 0, none⟩) cs.length cs.length)).run Try.prog w5 = .ok (.string (strOfNums cs)) w5 := conv8_here (row8_blk (blk_keep hq3 hc5 n2) cs.length rfl cs.length)
      have hCe : Chg (fun k => w.heap.size ≤ k) w w5 := (chg_then (chg_then hCd hc2) hc3).trans hc5 (fun b ⟨h, hm, e⟩ => .inl (by
        obtain ⟨i, hi⟩ := List.mem_iff_getElem?.1 hm
        exact ((hbk.rows i h hi).lt e).1))
      refine hK.out _ _ ⟨⟨⟨g1, g3, g2, g4⟩, gc2⟩, gc3⟩ (fun hHeld6 => ?_)
      clear hK K hHeld5 g1 g2 g3 g4 gc2 gc3 n1 n2 hR1 hR2 hc5 hbk HA HA2 HA3 hq2 hq3 hq23 hc2 hc3
      (try simp only [Act.put, List.setIfInBounds_toArray, List.set_cons_zero, List.set_cons_succ])
      refine take_at (i := 43) (d := some 93) (v := ?_) rfl rfl (by kernel_rfl) (by kernel_rfl) (by kernel_rfl) (fun _ _ _ h => h) (Or.inl ⟨by rfl, ?_⟩) (by assumption) ?_
      rotate_left
      · intro w hSw; obtain ⟨⟨⟨y1, y2, y3, y4⟩, y5⟩, y6⟩ := hSw; first | (go_simp; done) | (go_simp; with_reducible rfl)
      simp only [Act.put, List.setIfInBounds_toArray, List.set_cons_zero, List.set_cons_succ]
      refine take_at (i := 44) (d := some 2) (v := ?_) rfl rfl (by kernel_rfl) (by kernel_rfl) (by kernel_rfl) (fun _ _ _ h => h) (Or.inl ⟨by rfl, ?_⟩) (by assumption) ?_
      rotate_left
      · intro w hSw; obtain ⟨⟨⟨y1, y2, y3, y4⟩, y5⟩, y6⟩ := hSw; first | (go_simp; done) | (go_simp; with_reducible rfl)
      simp only [Act.put, List.setIfInBounds_toArray, List.set_cons_zero, List.set_cons_succ]
      refine wpAnyH_done (by kernel_rfl) ?_ _
      refine NoPanic.normal ?_
      clear hHeld6
      go_wp2
      go_ret
      exact ⟨rfl, hCe.below (Nat.le_refl _) (fun k f => f)⟩

end Go.Proofs.Ytgfibbabfpphpaa
